/- Chapter 8, the model: the conditions 2 to 4, one by one. -/
import Derived.Test.YtfijhgggljaomaaDoorVam
import Derived.Test.YtfijhgggljaomaaDoorBxw
import Derived.Deep.RegionHeld3
namespace Go.Proofs.YtfijhgggljaomaaDoor
set_option maxRecDepth 100000
open Go.RowKit
set_option linter.unusedVariables false

def Q2 (cs : List Cls) (k : Nat) : Bool := inB (cs.getD k cls0).i 1 999 && ((k == 0) || decide ((cs.getD (k - 1) cls0).i < (cs.getD k cls0).i))
def Q3 (cs : List Cls) (k : Nat) : Bool := parOk cs (cs.getD k cls0)
def Q4 (cs : List Cls) (k : Nat) : Bool := inB (vwN cs cs.length 1 k) 1 8 && ((cs.getD (vwL cs cs.length k) cls0).p == 0)
def TvRel (w : World) (o : Obj) (n : Nat) (cs : List Cls) (Q : Nat → Bool) (B : Bool) (t i : Value) (wr : World) : Prop :=
  ∃ k : Nat, k ≤ n ∧ i = .int .i64 k ∧ t = .int .i64 ((cT (cs.take k) : Nat) : Int) ∧ Aft w o wr ∧ Hid (fromK Q n k = B)
theorem l1In_low (n lo hi : Int) (w : World) : Calls Tryd.prog 19 #[.int .i64 n, .int .i64 lo, .int .i64 hi] w (SaysB w (inB n lo hi)) := (l1In_any n lo hi w).mono (fun e w' h => ⟨h.1, h.2 ▸ Below.refl _ _⟩)
theorem cT_take (cs : List Cls) (k : Nat) : cT (cs.take k) ≤ k := Nat.le_trans (cT_le _) (by simp; omega)
set_option maxRecDepth 100000 in
set_option maxHeartbeats 12800000 in
theorem vaTree2_any (s : ByteArray) (ac af : Option Addr) (n cc m cf : Nat) (d : Int) (cs : List Cls) (w : World) (HI : Hid (InX w ac n (clsCs cs))) (hn : Hid (cs.length = n)) (h40 : n ≤ 40) :
    Calls Tryd.prog 30 #[(.agg #[.string s, .slice ac n cc, .slice af m cf, .int .i64 d]), .int .i64 2] w (SaysB w (fromK (Q2 cs) n 0 && inB (n : Int) 1 24)) := by
  have q1 : n ≤ 1048576 := by omega
  obtain ⟨B, hB⟩ : ∃ B, fromK (Q2 cs) n 0 = B := ⟨_, rfl⟩
  have H0 := Lib.hid hB
  have HWY := Lib.hid (fun k (hk : k < n) w' HI => vaWay_any s ac af n cc m cf d cs k w' HI hn q1 hk)
  have HFI := Lib.hid (fun id w HI => cfFind_any s ac af n cc m cf d cs id w HI hn q1)
  have HIN := Lib.hid (fun a lo hi w => l1In_any a lo hi w)
  have hcT : cT (cs.take n) = cT cs := by rw [List.take_of_length_le (by rw [hn.out]; exact Nat.le_refl _)]
  rw [hB]
  have HFN := Lib.hid (fun w => l1In_any (n : Int) 1 24 w)
  generalize inB (n : Int) 1 24 = b24 at HFN ⊢
  clear hB
  go_enter Tryd.func30, Tryd.ntmps30
  go_wp2_with fail
  go_loopw [5, 13] (fun t i wr => TvRel w (Obj.cells #[.string s, .slice ac n cc, .slice af m cf, .int .i64 d] 32) n cs (Q2 cs) B t i wr) (fun _ i _ => n - (intOf i).toNat)
  case atStart => exact ⟨0, Nat.zero_le _, rfl, by simp [cT], Aft.refl _ _, H0⟩
  case round =>
    obtain ⟨k, hk, rfl, rfl, hb, HP⟩ := hrel
    have HB := Lib.hid hb
    have hz40 := cT_take cs k
    by_cases hlt : k < n
    · have hl1 : k < cs.length := by rw [hn.out]; exact hlt
      have HGI := HI.out
      obtain ⟨g, rfl, ht, hg⟩ := HGI (by omega)
      obtain ⟨x, hx⟩ : ∃ x, cs.getD k cls0 = x := ⟨_, rfl⟩
      obtain ⟨a0, a1, a2, a3, a4, a5, a6, a7⟩ := (ht.below hb.all.2 hg).cls k hl1 x hx
      obtain ⟨e0, e1, e2, e3, hgw⟩ := hb.all.1
      have HG := Lib.hid ht
      have HX0 := Lib.hid hx
      have HE := Lib.hid (fromK_at (Q2 cs) n k hlt)
      have HTM := Lib.hid (cT_more cs k hl1 x hx)
      have HB5 := Lib.hid (HB.out.alloc (Obj.cells #[.int .i64 x.i, .int .i64 x.p, .int .i64 x.r, .int .i64 x.e, .int .i64 x.b, .int .i64 x.u, .int .i64 x.o, .int .i64 x.l] 62))
      obtain ⟨f0, f1, f2, f3, _⟩ := HB5.out.all.1
      have HWk := Lib.hid (fun w' HI => HWY.out k hlt w' HI)
      clear hcT
      generalize cT (cs.take k) = z at *
      by_cases hz : x.p = 0
      · have HZ : Hid (cT (cs.take (k + 1)) = z + 1) := Lib.hid (by rw [HTM.out, if_pos hz])
        have dz : (x.p == 0) = true := by simpa using hz
        have HIx := Lib.hid (fun w' => l1In_low x.i 1 999 w')
        have HQ : Hid (Q2 cs k = (inB x.i 1 999 && ((k == 0) || decide ((cs.getD (k - 1) cls0).i < x.i)))) := Lib.hid (by unfold Q2; rw [hx])
        rcases Bool.eq_false_or_eq_true (inB x.i 1 999) with hi | hi
        · rw [hi] at HIx
          by_cases hk0 : k = 0
          · have HX : Hid (fromK (Q2 cs) n (k + 1) = B) := Lib.hid (by rw [← HP.out, HE.out, HQ.out, hi, hk0]; rfl)
            have dk := not_lt (show (k : Int) ≤ 0 by omega)
            have dkn : decide (0 < k) = false := decide_eq_false (by omega)
            obtain ⟨xi, xp, xr, xe, xb, xu, xo, xl⟩ := x
            simp only at a0 a1 a2 a3 a4 a5 a6 a7 HB5 f0 f1 f2 f3 HIx dz
            clear hb ht hx hz HWY HTM HIN HFI hl1 HQ hi hk0
            go_wp2_with (go_at_call 65; refine (HWk.out _ (Lib.hid (HI.out.below HB5.out.all.2))).mono ?_; rintro e w2 ⟨rfl, b2⟩; have A2 := Lib.hid (HB5.out.on b2); obtain ⟨c0, c1, c2, c3, _⟩ := A2.out.all.1; have X0 := ((bcell b2).1 wr.heap.size 0 (by simp)).trans (show (wr.alloc (Obj.cells #[.int .i64 xi, .int .i64 xp, .int .i64 xr, .int .i64 xe, .int .i64 xb, .int .i64 xu, .int .i64 xo, .int .i64 xl] 62)).cell? ⟨wr.heap.size, 0, none⟩ = some (.int .i64 xi) by simp [go_sem]); have X1 := ((bcell b2).1 wr.heap.size 1 (by simp)).trans (show (wr.alloc (Obj.cells #[.int .i64 xi, .int .i64 xp, .int .i64 xr, .int .i64 xe, .int .i64 xb, .int .i64 xu, .int .i64 xo, .int .i64 xl] 62)).cell? ⟨wr.heap.size, 1, none⟩ = some (.int .i64 xp) by simp [go_sem]);  have HWR2 : wr.heap.size < w2.heap.size := (Nat.lt_of_lt_of_le (by simp) b2.size); clear b2; refine Hid.out ?_)
            refine Lib.hid ?_
            have hwr2 : wr.heap.size < w2.heap.size := HWR2
            have HAB : Hid (∀ w', BX w2 w' → Aft w (Obj.cells #[.string s, .slice (some ⟨g, 0, none⟩) n cc, .slice af m cf, .int .i64 d] 32) w') := Lib.hid (fun w' h => A2.out.on h)
            have HQ : Hid (∀ w', BX w2 w' → w'.cell? ⟨w.heap.size, 1, none⟩ = some (.slice (some ⟨g, 0, none⟩) n cc) ∧ w'.cell? ⟨wr.heap.size, 0, none⟩ = some (.int .i64 xi) ∧ BX w2 w') := Lib.hid (fun w' h => by
              obtain ⟨_, q1, _, _, _⟩ := (HAB.out w' h).all.1
              exact ⟨q1, ((bcell (show Below w2.heap.size w2 w' from h)).1 _ 0 hwr2).trans X0, h⟩)
            go_wp2_with fail
            refine wp_region_held_drew (S := fun w' => w'.cell? ⟨w.heap.size, 1, none⟩ = some (.slice (some ⟨g, 0, none⟩) n cc) ∧ w'.cell? ⟨wr.heap.size, 0, none⟩ = some (.int .i64 xi) ∧ BX w2 w') (by kernel_rfl) ?_ (fun hHeld => ?_)
            · (try dsimp only)
              (first | (go_split_ands; refine HQ.out _ ?_; repeat' (with_reducible first | exact BX.drew0 _ | exact BX.refl _ | assumption | refine BX.call' (by assumption) ?_ | refine BX.drew ?_)))
            refine held_take (i := 0) (d := 30) (v := ?_) rfl rfl (by kernel_rfl) (by kernel_rfl) (by kernel_rfl) (fun _ _ _ h => h) (by rfl) ?_ (by assumption) ?_
            rotate_left
            · intro w hSw
              (try dsimp only at hSw)
              go_simp
              try with_reducible rfl
            try simp only [Act.put, List.setIfInBounds_toArray, List.set_cons_zero, List.set_cons_succ]
            refine held_take (i := 1) (d := 31) (v := ?_) rfl rfl (by kernel_rfl) (by kernel_rfl) (by kernel_rfl) (fun _ _ _ h => h) (by rfl) ?_ (by assumption) ?_
            rotate_left
            · intro w hSw
              (try dsimp only at hSw)
              go_simp
              try with_reducible rfl
            try simp only [Act.put, List.setIfInBounds_toArray, List.set_cons_zero, List.set_cons_succ]
            refine held_take (i := 2) (d := 32) (v := ?_) rfl rfl (by kernel_rfl) (by kernel_rfl) (by kernel_rfl) (fun _ _ _ h => h) (by rfl) ?_ (by assumption) ?_
            rotate_left
            · intro w hSw
              (try dsimp only at hSw)
              go_simp
              try with_reducible rfl
            try simp only [Act.put, List.setIfInBounds_toArray, List.set_cons_zero, List.set_cons_succ]
            refine held_take (i := 3) (d := 33) (v := ?_) rfl rfl (by kernel_rfl) (by kernel_rfl) (by kernel_rfl) (fun _ _ _ h => h) (by rfl) ?_ (by assumption) ?_
            rotate_left
            · intro w hSw
              (try dsimp only at hSw)
              go_simp
              try with_reducible rfl
            try simp only [Act.put, List.setIfInBounds_toArray, List.set_cons_zero, List.set_cons_succ]
            refine held_take (i := 4) (d := 34) (v := ?_) rfl rfl (by kernel_rfl) (by kernel_rfl) (by kernel_rfl) (fun _ _ _ h => h) (by rfl) ?_ (by assumption) ?_
            rotate_left
            · intro w hSw
              (try dsimp only at hSw)
              go_simp
              try with_reducible rfl
            try simp only [Act.put, List.setIfInBounds_toArray, List.set_cons_zero, List.set_cons_succ]
            refine wpAnyH_ready (rs := [5]) (by kernel_rfl) (by simp) ?_
            refine AllReadyH.cons rfl (fun K' hK => ?_) AllReadyH.nil
            go_simp
            (go_split_ands; (with_reducible refine (HIx.out _).mono ?_); rintro e w9 ⟨rfl, b9⟩)
            refine hK.out _ _ ?_ (fun hHeld => ?_)
            · (try dsimp only)
              (first | (go_split_ands; refine HQ.out _ ?_; repeat' (with_reducible first | exact BX.drew0 _ | exact BX.refl _ | assumption | refine BX.call' (by assumption) ?_ | refine BX.drew ?_)))
            clear hK K'
            try simp only [Act.put, List.setIfInBounds_toArray, List.set_cons_zero, List.set_cons_succ]
            refine held_take (i := 6) (d := 36) (v := ?_) rfl rfl (by kernel_rfl) (by kernel_rfl) (by kernel_rfl) (fun _ _ _ h => h) (by rfl) ?_ (by assumption) ?_
            rotate_left
            · intro w hSw
              (try dsimp only at hSw)
              go_simp
              try with_reducible rfl
            try simp only [Act.put, List.setIfInBounds_toArray, List.set_cons_zero, List.set_cons_succ]
            refine held_take (i := 7) (d := 37) (v := ?_) rfl rfl (by kernel_rfl) (by kernel_rfl) (by kernel_rfl) (fun _ _ _ h => h) (by rfl) ?_ (by assumption) ?_
            rotate_left
            · intro w hSw
              (try dsimp only at hSw)
              go_simp
              try with_reducible rfl
            try simp only [Act.put, List.setIfInBounds_toArray, List.set_cons_zero, List.set_cons_succ]
            refine held_take (i := 8) (d := 38) (v := ?_) rfl rfl (by kernel_rfl) (by kernel_rfl) (by kernel_rfl) (fun _ _ _ h => h) (by rfl) ?_ (by assumption) ?_
            rotate_left
            · intro w hSw
              (try dsimp only at hSw)
              go_simp
              try with_reducible rfl
            try simp only [Act.put, List.setIfInBounds_toArray, List.set_cons_zero, List.set_cons_succ]
            refine held_take (i := 9) (d := 39) (v := ?_) rfl rfl (by kernel_rfl) (by kernel_rfl) (by kernel_rfl) (fun _ _ _ h => h) (by rfl) ?_ (by assumption) ?_
            rotate_left
            · intro w hSw
              (try dsimp only at hSw)
              go_simp
              try with_reducible rfl
            try simp only [Act.put, List.setIfInBounds_toArray, List.set_cons_zero, List.set_cons_succ]
            refine held_take (i := 10) (d := 40) (v := ?_) rfl rfl (by kernel_rfl) (by kernel_rfl) (by kernel_rfl) (fun _ _ _ h => h) (by rfl) ?_ (by assumption) ?_
            rotate_left
            · intro w hSw
              (try dsimp only at hSw)
              go_simp
              try with_reducible rfl
            try simp only [Act.put, List.setIfInBounds_toArray, List.set_cons_zero, List.set_cons_succ]
            refine held_skip (i := 11) (d := 41) rfl rfl (by kernel_rfl) (by kernel_rfl) (by kernel_rfl) (fun _ _ _ h => h) (by rfl) (by assumption) ?_
            try simp only [Act.put, List.setIfInBounds_toArray, List.set_cons_zero, List.set_cons_succ]
            refine held_skip (i := 12) (d := 42) rfl rfl (by kernel_rfl) (by kernel_rfl) (by kernel_rfl) (fun _ _ _ h => h) (by rfl) (by assumption) ?_
            try simp only [Act.put, List.setIfInBounds_toArray, List.set_cons_zero, List.set_cons_succ]
            refine held_skip (i := 13) (d := 43) rfl rfl (by kernel_rfl) (by kernel_rfl) (by kernel_rfl) (fun _ _ _ h => h) (by rfl) (by assumption) ?_
            try simp only [Act.put, List.setIfInBounds_toArray, List.set_cons_zero, List.set_cons_succ]
            refine held_skip (i := 14) (d := 44) rfl rfl (by kernel_rfl) (by kernel_rfl) (by kernel_rfl) (fun _ _ _ h => h) (by rfl) (by assumption) ?_
            try simp only [Act.put, List.setIfInBounds_toArray, List.set_cons_zero, List.set_cons_succ]
            refine held_skip (i := 15) (d := 45) rfl rfl (by kernel_rfl) (by kernel_rfl) (by kernel_rfl) (fun _ _ _ h => h) (by rfl) (by assumption) ?_
            try simp only [Act.put, List.setIfInBounds_toArray, List.set_cons_zero, List.set_cons_succ]
            refine held_skip (i := 16) (d := 46) rfl rfl (by kernel_rfl) (by kernel_rfl) (by kernel_rfl) (fun _ _ _ h => h) (by rfl) (by assumption) ?_
            try simp only [Act.put, List.setIfInBounds_toArray, List.set_cons_zero, List.set_cons_succ]
            refine held_skip (i := 17) (d := 47) rfl rfl (by kernel_rfl) (by kernel_rfl) (by kernel_rfl) (fun _ _ _ h => h) (by rfl) (by assumption) ?_
            try simp only [Act.put, List.setIfInBounds_toArray, List.set_cons_zero, List.set_cons_succ]
            refine held_skip (i := 18) (d := 48) rfl rfl (by kernel_rfl) (by kernel_rfl) (by kernel_rfl) (fun _ _ _ h => h) (by rfl) (by assumption) ?_
            try simp only [Act.put, List.setIfInBounds_toArray, List.set_cons_zero, List.set_cons_succ]
            refine held_skip (i := 19) (d := 49) rfl rfl (by kernel_rfl) (by kernel_rfl) (by kernel_rfl) (fun _ _ _ h => h) (by rfl) (by assumption) ?_
            try simp only [Act.put, List.setIfInBounds_toArray, List.set_cons_zero, List.set_cons_succ]
            refine held_skip (i := 20) (d := 50) rfl rfl (by kernel_rfl) (by kernel_rfl) (by kernel_rfl) (fun _ _ _ h => h) (by rfl) (by assumption) ?_
            try simp only [Act.put, List.setIfInBounds_toArray, List.set_cons_zero, List.set_cons_succ]
            refine held_take (i := 21) (d := 51) (v := ?_) rfl rfl (by kernel_rfl) (by kernel_rfl) (by kernel_rfl) (fun _ _ _ h => h) (by rfl) ?_ (by assumption) ?_
            rotate_left
            · intro w hSw
              (try dsimp only at hSw)
              go_simp
              try with_reducible rfl
            try simp only [Act.put, List.setIfInBounds_toArray, List.set_cons_zero, List.set_cons_succ]
            refine held_take (i := 22) (d := 52) (v := ?_) rfl rfl (by kernel_rfl) (by kernel_rfl) (by kernel_rfl) (fun _ _ _ h => h) (by rfl) ?_ (by assumption) ?_
            rotate_left
            · intro w hSw
              (try dsimp only at hSw)
              go_simp
              try with_reducible rfl
            try simp only [Act.put, List.setIfInBounds_toArray, List.set_cons_zero, List.set_cons_succ]
            refine held_take (i := 23) (d := 53) (v := ?_) rfl rfl (by kernel_rfl) (by kernel_rfl) (by kernel_rfl) (fun _ _ _ h => h) (by rfl) ?_ (by assumption) ?_
            rotate_left
            · intro w hSw
              (try dsimp only at hSw)
              go_simp
              try with_reducible rfl
            try simp only [Act.put, List.setIfInBounds_toArray, List.set_cons_zero, List.set_cons_succ]
            refine held_take (i := 24) (d := 29) (v := ?_) rfl rfl (by kernel_rfl) (by kernel_rfl) (by kernel_rfl) (fun _ _ _ h => h) (by rfl) ?_ (by assumption) ?_
            rotate_left
            · intro w hSw
              (try dsimp only at hSw)
              go_simp
              try with_reducible rfl
            try simp only [Act.put, List.setIfInBounds_toArray, List.set_cons_zero, List.set_cons_succ]
            refine wpAnyH_done (by kernel_rfl) ?_ _
            go_split_ands
            have h29 : BX w2 w9 := by assumption
            have A9 := Lib.hid (HAB.out w9 h29)
            go_wp2_with fail
            go_roundw
            case rel => exact ⟨k + 1, by omega, by go_num, by rw [HZ.out] <;> go_num, A9.out, HX⟩
            case measure => simp [intOf]; omega
          · obtain ⟨y, hy⟩ : ∃ y, cs.getD (k - 1) cls0 = y := ⟨_, rfl⟩
            have HY := Lib.hid hy
            have dk := is_lt (show (0 : Int) < (k : Int) by omega)
            have dkn : decide (0 < k) = true := decide_eq_true (by omega)
            have dk2 : (0 : Int) ≤ (k : Int) - 1 := by omega
            have dk5 : (1 : Int) ≤ (k : Int) := by omega
            have dk3 : (k : Int) - 1 < (n : Int) := by omega
            have dk4 : ((k : Int) - 1).toNat = k - 1 := by omega
            have dk1 : IntKind.i64.wrap ((k : Int) - 1) = (k : Int) - 1 := IntWalk.i64_in _ (by omega)
            rcases Int.lt_or_le y.i x.i with hc | hc
            · have HX : Hid (fromK (Q2 cs) n (k + 1) = B) := Lib.hid (by rw [← HP.out, HE.out, HQ.out, hi, hy, decide_eq_true hc]; simp)
              have dc : decide (x.i ≤ y.i) = false := not_le hc
              obtain ⟨xi, xp, xr, xe, xb, xu, xo, xl⟩ := x
              simp only at a0 a1 a2 a3 a4 a5 a6 a7 HB5 f0 f1 f2 f3 HIx dz dc
              clear hb ht hx hz HWY HTM HIN HFI hl1 HQ hi hy hc hk0
              go_wp2_with (go_at_call 65; refine (HWk.out _ (Lib.hid (HI.out.below HB5.out.all.2))).mono ?_; rintro e w2 ⟨rfl, b2⟩; have A2 := Lib.hid (HB5.out.on b2); obtain ⟨c0, c1, c2, c3, _⟩ := A2.out.all.1; have X0 := ((bcell b2).1 wr.heap.size 0 (by simp)).trans (show (wr.alloc (Obj.cells #[.int .i64 xi, .int .i64 xp, .int .i64 xr, .int .i64 xe, .int .i64 xb, .int .i64 xu, .int .i64 xo, .int .i64 xl] 62)).cell? ⟨wr.heap.size, 0, none⟩ = some (.int .i64 xi) by simp [go_sem]); have X1 := ((bcell b2).1 wr.heap.size 1 (by simp)).trans (show (wr.alloc (Obj.cells #[.int .i64 xi, .int .i64 xp, .int .i64 xr, .int .i64 xe, .int .i64 xb, .int .i64 xu, .int .i64 xo, .int .i64 xl] 62)).cell? ⟨wr.heap.size, 1, none⟩ = some (.int .i64 xp) by simp [go_sem]); have p0 := ((HG.out.below A2.out.all.2 hg).cls (k - 1) (by rw [hn.out]; omega) _ HY.out).1; have HWR2 : wr.heap.size < w2.heap.size := (Nat.lt_of_lt_of_le (by simp) b2.size); clear b2; refine Hid.out ?_)
              refine Lib.hid ?_
              have hwr2 : wr.heap.size < w2.heap.size := HWR2
              have HAB : Hid (∀ w', BX w2 w' → Aft w (Obj.cells #[.string s, .slice (some ⟨g, 0, none⟩) n cc, .slice af m cf, .int .i64 d] 32) w') := Lib.hid (fun w' h => A2.out.on h)
              have HQ : Hid (∀ w', BX w2 w' → w'.cell? ⟨w.heap.size, 1, none⟩ = some (.slice (some ⟨g, 0, none⟩) n cc) ∧ w'.cell? ⟨wr.heap.size, 0, none⟩ = some (.int .i64 xi) ∧ w'.cell? ⟨g, (k - 1) * 8, none⟩ = some (.int .i64 y.i) ∧ BX w2 w') := Lib.hid (fun w' h => by
                obtain ⟨_, q1, _, _, _⟩ := (HAB.out w' h).all.1
                exact ⟨q1, ((bcell (show Below w2.heap.size w2 w' from h)).1 _ 0 hwr2).trans X0, ((HG.out.below (HAB.out w' h).all.2 hg).cls (k - 1) (by rw [hn.out]; omega) _ HY.out).1, h⟩)
              go_wp2_with fail
              refine wp_region_held_drew (S := fun w' => w'.cell? ⟨w.heap.size, 1, none⟩ = some (.slice (some ⟨g, 0, none⟩) n cc) ∧ w'.cell? ⟨wr.heap.size, 0, none⟩ = some (.int .i64 xi) ∧ w'.cell? ⟨g, (k - 1) * 8, none⟩ = some (.int .i64 y.i) ∧ BX w2 w') (by kernel_rfl) ?_ (fun hHeld => ?_)
              · (try dsimp only)
                (first | (go_split_ands; refine HQ.out _ ?_; repeat' (with_reducible first | exact BX.drew0 _ | exact BX.refl _ | assumption | refine BX.call' (by assumption) ?_ | refine BX.drew ?_)))
              refine held_take (i := 0) (d := 30) (v := ?_) rfl rfl (by kernel_rfl) (by kernel_rfl) (by kernel_rfl) (fun _ _ _ h => h) (by rfl) ?_ (by assumption) ?_
              rotate_left
              · intro w hSw
                (try dsimp only at hSw)
                go_simp
                try with_reducible rfl
              try simp only [Act.put, List.setIfInBounds_toArray, List.set_cons_zero, List.set_cons_succ]
              refine held_take (i := 1) (d := 31) (v := ?_) rfl rfl (by kernel_rfl) (by kernel_rfl) (by kernel_rfl) (fun _ _ _ h => h) (by rfl) ?_ (by assumption) ?_
              rotate_left
              · intro w hSw
                (try dsimp only at hSw)
                go_simp
                try with_reducible rfl
              try simp only [Act.put, List.setIfInBounds_toArray, List.set_cons_zero, List.set_cons_succ]
              refine held_take (i := 2) (d := 32) (v := ?_) rfl rfl (by kernel_rfl) (by kernel_rfl) (by kernel_rfl) (fun _ _ _ h => h) (by rfl) ?_ (by assumption) ?_
              rotate_left
              · intro w hSw
                (try dsimp only at hSw)
                go_simp
                try with_reducible rfl
              try simp only [Act.put, List.setIfInBounds_toArray, List.set_cons_zero, List.set_cons_succ]
              refine held_take (i := 3) (d := 33) (v := ?_) rfl rfl (by kernel_rfl) (by kernel_rfl) (by kernel_rfl) (fun _ _ _ h => h) (by rfl) ?_ (by assumption) ?_
              rotate_left
              · intro w hSw
                (try dsimp only at hSw)
                go_simp
                try with_reducible rfl
              try simp only [Act.put, List.setIfInBounds_toArray, List.set_cons_zero, List.set_cons_succ]
              refine held_take (i := 4) (d := 34) (v := ?_) rfl rfl (by kernel_rfl) (by kernel_rfl) (by kernel_rfl) (fun _ _ _ h => h) (by rfl) ?_ (by assumption) ?_
              rotate_left
              · intro w hSw
                (try dsimp only at hSw)
                go_simp
                try with_reducible rfl
              try simp only [Act.put, List.setIfInBounds_toArray, List.set_cons_zero, List.set_cons_succ]
              refine wpAnyH_ready (rs := [5]) (by kernel_rfl) (by simp) ?_
              refine AllReadyH.cons rfl (fun K' hK => ?_) AllReadyH.nil
              go_simp
              (go_split_ands; (with_reducible refine (HIx.out _).mono ?_); rintro e w9 ⟨rfl, b9⟩)
              refine hK.out _ _ ?_ (fun hHeld => ?_)
              · (try dsimp only)
                (first | (go_split_ands; refine HQ.out _ ?_; repeat' (with_reducible first | exact BX.drew0 _ | exact BX.refl _ | assumption | refine BX.call' (by assumption) ?_ | refine BX.drew ?_)))
              clear hK K'
              try simp only [Act.put, List.setIfInBounds_toArray, List.set_cons_zero, List.set_cons_succ]
              refine held_take (i := 6) (d := 36) (v := ?_) rfl rfl (by kernel_rfl) (by kernel_rfl) (by kernel_rfl) (fun _ _ _ h => h) (by rfl) ?_ (by assumption) ?_
              rotate_left
              · intro w hSw
                (try dsimp only at hSw)
                go_simp
                try with_reducible rfl
              try simp only [Act.put, List.setIfInBounds_toArray, List.set_cons_zero, List.set_cons_succ]
              refine held_take (i := 7) (d := 37) (v := ?_) rfl rfl (by kernel_rfl) (by kernel_rfl) (by kernel_rfl) (fun _ _ _ h => h) (by rfl) ?_ (by assumption) ?_
              rotate_left
              · intro w hSw
                (try dsimp only at hSw)
                go_simp
                try with_reducible rfl
              try simp only [Act.put, List.setIfInBounds_toArray, List.set_cons_zero, List.set_cons_succ]
              refine held_take (i := 8) (d := 38) (v := ?_) rfl rfl (by kernel_rfl) (by kernel_rfl) (by kernel_rfl) (fun _ _ _ h => h) (by rfl) ?_ (by assumption) ?_
              rotate_left
              · intro w hSw
                (try dsimp only at hSw)
                go_simp
                try with_reducible rfl
              try simp only [Act.put, List.setIfInBounds_toArray, List.set_cons_zero, List.set_cons_succ]
              refine held_take (i := 9) (d := 39) (v := ?_) rfl rfl (by kernel_rfl) (by kernel_rfl) (by kernel_rfl) (fun _ _ _ h => h) (by rfl) ?_ (by assumption) ?_
              rotate_left
              · intro w hSw
                (try dsimp only at hSw)
                go_simp
                try with_reducible rfl
              try simp only [Act.put, List.setIfInBounds_toArray, List.set_cons_zero, List.set_cons_succ]
              refine held_take (i := 10) (d := 40) (v := ?_) rfl rfl (by kernel_rfl) (by kernel_rfl) (by kernel_rfl) (fun _ _ _ h => h) (by rfl) ?_ (by assumption) ?_
              rotate_left
              · intro w hSw
                (try dsimp only at hSw)
                go_simp
                try with_reducible rfl
              try simp only [Act.put, List.setIfInBounds_toArray, List.set_cons_zero, List.set_cons_succ]
              refine held_take (i := 11) (d := 41) (v := ?_) rfl rfl (by kernel_rfl) (by kernel_rfl) (by kernel_rfl) (fun _ _ _ h => h) (by rfl) ?_ (by assumption) ?_
              rotate_left
              · intro w hSw
                (try dsimp only at hSw)
                go_simp
                try with_reducible rfl
              try simp only [Act.put, List.setIfInBounds_toArray, List.set_cons_zero, List.set_cons_succ]
              refine held_take (i := 12) (d := 42) (v := ?_) rfl rfl (by kernel_rfl) (by kernel_rfl) (by kernel_rfl) (fun _ _ _ h => h) (by rfl) ?_ (by assumption) ?_
              rotate_left
              · intro w hSw
                (try dsimp only at hSw)
                go_simp
                try with_reducible rfl
              try simp only [Act.put, List.setIfInBounds_toArray, List.set_cons_zero, List.set_cons_succ]
              refine held_take (i := 13) (d := 43) (v := ?_) rfl rfl (by kernel_rfl) (by kernel_rfl) (by kernel_rfl) (fun _ _ _ h => h) (by rfl) ?_ (by assumption) ?_
              rotate_left
              · intro w hSw
                (try dsimp only at hSw)
                go_simp
                try with_reducible rfl
              try simp only [Act.put, List.setIfInBounds_toArray, List.set_cons_zero, List.set_cons_succ]
              refine held_take (i := 14) (d := 44) (v := ?_) rfl rfl (by kernel_rfl) (by kernel_rfl) (by kernel_rfl) (fun _ _ _ h => h) (by rfl) ?_ (by assumption) ?_
              rotate_left
              · intro w hSw
                (try dsimp only at hSw)
                go_simp
                try with_reducible rfl
              try simp only [Act.put, List.setIfInBounds_toArray, List.set_cons_zero, List.set_cons_succ]
              refine held_take (i := 15) (d := 45) (v := ?_) rfl rfl (by kernel_rfl) (by kernel_rfl) (by kernel_rfl) (fun _ _ _ h => h) (by rfl) ?_ (by assumption) ?_
              rotate_left
              · intro w hSw
                (try dsimp only at hSw)
                go_simp
                try with_reducible rfl
              try simp only [Act.put, List.setIfInBounds_toArray, List.set_cons_zero, List.set_cons_succ]
              refine held_take (i := 16) (d := 46) (v := ?_) rfl rfl (by kernel_rfl) (by kernel_rfl) (by kernel_rfl) (fun _ _ _ h => h) (by rfl) ?_ (by assumption) ?_
              rotate_left
              · intro w hSw
                (try dsimp only at hSw)
                go_simp
                try with_reducible rfl
              try simp only [Act.put, List.setIfInBounds_toArray, List.set_cons_zero, List.set_cons_succ]
              refine held_take (i := 17) (d := 47) (v := ?_) rfl rfl (by kernel_rfl) (by kernel_rfl) (by kernel_rfl) (fun _ _ _ h => h) (by rfl) ?_ (by assumption) ?_
              rotate_left
              · intro w hSw
                (try dsimp only at hSw)
                go_simp
                try with_reducible rfl
              try simp only [Act.put, List.setIfInBounds_toArray, List.set_cons_zero, List.set_cons_succ]
              refine held_take (i := 18) (d := 48) (v := ?_) rfl rfl (by kernel_rfl) (by kernel_rfl) (by kernel_rfl) (fun _ _ _ h => h) (by rfl) ?_ (by assumption) ?_
              rotate_left
              · intro w hSw
                (try dsimp only at hSw)
                go_simp
                try with_reducible rfl
              try simp only [Act.put, List.setIfInBounds_toArray, List.set_cons_zero, List.set_cons_succ]
              refine held_take (i := 19) (d := 49) (v := ?_) rfl rfl (by kernel_rfl) (by kernel_rfl) (by kernel_rfl) (fun _ _ _ h => h) (by rfl) ?_ (by assumption) ?_
              rotate_left
              · intro w hSw
                (try dsimp only at hSw)
                go_simp
                try with_reducible rfl
              try simp only [Act.put, List.setIfInBounds_toArray, List.set_cons_zero, List.set_cons_succ]
              refine held_take (i := 20) (d := 50) (v := ?_) rfl rfl (by kernel_rfl) (by kernel_rfl) (by kernel_rfl) (fun _ _ _ h => h) (by rfl) ?_ (by assumption) ?_
              rotate_left
              · intro w hSw
                (try dsimp only at hSw)
                go_simp
                try with_reducible rfl
              try simp only [Act.put, List.setIfInBounds_toArray, List.set_cons_zero, List.set_cons_succ]
              refine held_take (i := 21) (d := 51) (v := ?_) rfl rfl (by kernel_rfl) (by kernel_rfl) (by kernel_rfl) (fun _ _ _ h => h) (by rfl) ?_ (by assumption) ?_
              rotate_left
              · intro w hSw
                (try dsimp only at hSw)
                go_simp
                try with_reducible rfl
              try simp only [Act.put, List.setIfInBounds_toArray, List.set_cons_zero, List.set_cons_succ]
              refine held_take (i := 22) (d := 52) (v := ?_) rfl rfl (by kernel_rfl) (by kernel_rfl) (by kernel_rfl) (fun _ _ _ h => h) (by rfl) ?_ (by assumption) ?_
              rotate_left
              · intro w hSw
                (try dsimp only at hSw)
                go_simp
                try with_reducible rfl
              try simp only [Act.put, List.setIfInBounds_toArray, List.set_cons_zero, List.set_cons_succ]
              refine held_take (i := 23) (d := 53) (v := ?_) rfl rfl (by kernel_rfl) (by kernel_rfl) (by kernel_rfl) (fun _ _ _ h => h) (by rfl) ?_ (by assumption) ?_
              rotate_left
              · intro w hSw
                (try dsimp only at hSw)
                go_simp
                try with_reducible rfl
              try simp only [Act.put, List.setIfInBounds_toArray, List.set_cons_zero, List.set_cons_succ]
              refine held_take (i := 24) (d := 29) (v := ?_) rfl rfl (by kernel_rfl) (by kernel_rfl) (by kernel_rfl) (fun _ _ _ h => h) (by rfl) ?_ (by assumption) ?_
              rotate_left
              · intro w hSw
                (try dsimp only at hSw)
                go_simp
                try with_reducible rfl
              try simp only [Act.put, List.setIfInBounds_toArray, List.set_cons_zero, List.set_cons_succ]
              refine wpAnyH_done (by kernel_rfl) ?_ _
              go_split_ands
              have h29 : BX w2 w9 := by assumption
              have A9 := Lib.hid (HAB.out w9 h29)
              go_wp2_with fail
              go_roundw
              case rel => exact ⟨k + 1, by omega, by go_num, by rw [HZ.out] <;> go_num, A9.out, HX⟩
              case measure => simp [intOf]; omega
            · have HX : Hid (false = B) := Lib.hid (by rw [← HP.out, HE.out, HQ.out, hi, hy, decide_eq_false (Int.not_lt.2 hc), beq_eq_false_iff_ne.2 hk0]; rfl)
              have dc : decide (x.i ≤ y.i) = true := is_le hc
              obtain ⟨xi, xp, xr, xe, xb, xu, xo, xl⟩ := x
              simp only at a0 a1 a2 a3 a4 a5 a6 a7 HB5 f0 f1 f2 f3 HIx dz dc
              clear hb ht hx hz HWY HTM HIN HFI hl1 HQ hi hy hc hk0
              go_wp2_with (go_at_call 65; refine (HWk.out _ (Lib.hid (HI.out.below HB5.out.all.2))).mono ?_; rintro e w2 ⟨rfl, b2⟩; have A2 := Lib.hid (HB5.out.on b2); obtain ⟨c0, c1, c2, c3, _⟩ := A2.out.all.1; have X0 := ((bcell b2).1 wr.heap.size 0 (by simp)).trans (show (wr.alloc (Obj.cells #[.int .i64 xi, .int .i64 xp, .int .i64 xr, .int .i64 xe, .int .i64 xb, .int .i64 xu, .int .i64 xo, .int .i64 xl] 62)).cell? ⟨wr.heap.size, 0, none⟩ = some (.int .i64 xi) by simp [go_sem]); have X1 := ((bcell b2).1 wr.heap.size 1 (by simp)).trans (show (wr.alloc (Obj.cells #[.int .i64 xi, .int .i64 xp, .int .i64 xr, .int .i64 xe, .int .i64 xb, .int .i64 xu, .int .i64 xo, .int .i64 xl] 62)).cell? ⟨wr.heap.size, 1, none⟩ = some (.int .i64 xp) by simp [go_sem]); have p0 := ((HG.out.below A2.out.all.2 hg).cls (k - 1) (by rw [hn.out]; omega) _ HY.out).1; have HWR2 : wr.heap.size < w2.heap.size := (Nat.lt_of_lt_of_le (by simp) b2.size); clear b2; refine Hid.out ?_)
              refine Lib.hid ?_
              have hwr2 : wr.heap.size < w2.heap.size := HWR2
              have HAB : Hid (∀ w', BX w2 w' → Aft w (Obj.cells #[.string s, .slice (some ⟨g, 0, none⟩) n cc, .slice af m cf, .int .i64 d] 32) w') := Lib.hid (fun w' h => A2.out.on h)
              have HQ : Hid (∀ w', BX w2 w' → w'.cell? ⟨w.heap.size, 1, none⟩ = some (.slice (some ⟨g, 0, none⟩) n cc) ∧ w'.cell? ⟨wr.heap.size, 0, none⟩ = some (.int .i64 xi) ∧ w'.cell? ⟨g, (k - 1) * 8, none⟩ = some (.int .i64 y.i) ∧ BX w2 w') := Lib.hid (fun w' h => by
                obtain ⟨_, q1, _, _, _⟩ := (HAB.out w' h).all.1
                exact ⟨q1, ((bcell (show Below w2.heap.size w2 w' from h)).1 _ 0 hwr2).trans X0, ((HG.out.below (HAB.out w' h).all.2 hg).cls (k - 1) (by rw [hn.out]; omega) _ HY.out).1, h⟩)
              go_wp2_with fail
              refine wp_region_held_drew (S := fun w' => w'.cell? ⟨w.heap.size, 1, none⟩ = some (.slice (some ⟨g, 0, none⟩) n cc) ∧ w'.cell? ⟨wr.heap.size, 0, none⟩ = some (.int .i64 xi) ∧ w'.cell? ⟨g, (k - 1) * 8, none⟩ = some (.int .i64 y.i) ∧ BX w2 w') (by kernel_rfl) ?_ (fun hHeld => ?_)
              · (try dsimp only)
                (first | (go_split_ands; refine HQ.out _ ?_; repeat' (with_reducible first | exact BX.drew0 _ | exact BX.refl _ | assumption | refine BX.call' (by assumption) ?_ | refine BX.drew ?_)))
              refine held_take (i := 0) (d := 30) (v := ?_) rfl rfl (by kernel_rfl) (by kernel_rfl) (by kernel_rfl) (fun _ _ _ h => h) (by rfl) ?_ (by assumption) ?_
              rotate_left
              · intro w hSw
                (try dsimp only at hSw)
                go_simp
                try with_reducible rfl
              try simp only [Act.put, List.setIfInBounds_toArray, List.set_cons_zero, List.set_cons_succ]
              refine held_take (i := 1) (d := 31) (v := ?_) rfl rfl (by kernel_rfl) (by kernel_rfl) (by kernel_rfl) (fun _ _ _ h => h) (by rfl) ?_ (by assumption) ?_
              rotate_left
              · intro w hSw
                (try dsimp only at hSw)
                go_simp
                try with_reducible rfl
              try simp only [Act.put, List.setIfInBounds_toArray, List.set_cons_zero, List.set_cons_succ]
              refine held_take (i := 2) (d := 32) (v := ?_) rfl rfl (by kernel_rfl) (by kernel_rfl) (by kernel_rfl) (fun _ _ _ h => h) (by rfl) ?_ (by assumption) ?_
              rotate_left
              · intro w hSw
                (try dsimp only at hSw)
                go_simp
                try with_reducible rfl
              try simp only [Act.put, List.setIfInBounds_toArray, List.set_cons_zero, List.set_cons_succ]
              refine held_take (i := 3) (d := 33) (v := ?_) rfl rfl (by kernel_rfl) (by kernel_rfl) (by kernel_rfl) (fun _ _ _ h => h) (by rfl) ?_ (by assumption) ?_
              rotate_left
              · intro w hSw
                (try dsimp only at hSw)
                go_simp
                try with_reducible rfl
              try simp only [Act.put, List.setIfInBounds_toArray, List.set_cons_zero, List.set_cons_succ]
              refine held_take (i := 4) (d := 34) (v := ?_) rfl rfl (by kernel_rfl) (by kernel_rfl) (by kernel_rfl) (fun _ _ _ h => h) (by rfl) ?_ (by assumption) ?_
              rotate_left
              · intro w hSw
                (try dsimp only at hSw)
                go_simp
                try with_reducible rfl
              try simp only [Act.put, List.setIfInBounds_toArray, List.set_cons_zero, List.set_cons_succ]
              refine wpAnyH_ready (rs := [5]) (by kernel_rfl) (by simp) ?_
              refine AllReadyH.cons rfl (fun K' hK => ?_) AllReadyH.nil
              go_simp
              (go_split_ands; (with_reducible refine (HIx.out _).mono ?_); rintro e w9 ⟨rfl, b9⟩)
              refine hK.out _ _ ?_ (fun hHeld => ?_)
              · (try dsimp only)
                (first | (go_split_ands; refine HQ.out _ ?_; repeat' (with_reducible first | exact BX.drew0 _ | exact BX.refl _ | assumption | refine BX.call' (by assumption) ?_ | refine BX.drew ?_)))
              clear hK K'
              try simp only [Act.put, List.setIfInBounds_toArray, List.set_cons_zero, List.set_cons_succ]
              refine held_take (i := 6) (d := 36) (v := ?_) rfl rfl (by kernel_rfl) (by kernel_rfl) (by kernel_rfl) (fun _ _ _ h => h) (by rfl) ?_ (by assumption) ?_
              rotate_left
              · intro w hSw
                (try dsimp only at hSw)
                go_simp
                try with_reducible rfl
              try simp only [Act.put, List.setIfInBounds_toArray, List.set_cons_zero, List.set_cons_succ]
              refine held_take (i := 7) (d := 37) (v := ?_) rfl rfl (by kernel_rfl) (by kernel_rfl) (by kernel_rfl) (fun _ _ _ h => h) (by rfl) ?_ (by assumption) ?_
              rotate_left
              · intro w hSw
                (try dsimp only at hSw)
                go_simp
                try with_reducible rfl
              try simp only [Act.put, List.setIfInBounds_toArray, List.set_cons_zero, List.set_cons_succ]
              refine held_take (i := 8) (d := 38) (v := ?_) rfl rfl (by kernel_rfl) (by kernel_rfl) (by kernel_rfl) (fun _ _ _ h => h) (by rfl) ?_ (by assumption) ?_
              rotate_left
              · intro w hSw
                (try dsimp only at hSw)
                go_simp
                try with_reducible rfl
              try simp only [Act.put, List.setIfInBounds_toArray, List.set_cons_zero, List.set_cons_succ]
              refine held_take (i := 9) (d := 39) (v := ?_) rfl rfl (by kernel_rfl) (by kernel_rfl) (by kernel_rfl) (fun _ _ _ h => h) (by rfl) ?_ (by assumption) ?_
              rotate_left
              · intro w hSw
                (try dsimp only at hSw)
                go_simp
                try with_reducible rfl
              try simp only [Act.put, List.setIfInBounds_toArray, List.set_cons_zero, List.set_cons_succ]
              refine held_take (i := 10) (d := 40) (v := ?_) rfl rfl (by kernel_rfl) (by kernel_rfl) (by kernel_rfl) (fun _ _ _ h => h) (by rfl) ?_ (by assumption) ?_
              rotate_left
              · intro w hSw
                (try dsimp only at hSw)
                go_simp
                try with_reducible rfl
              try simp only [Act.put, List.setIfInBounds_toArray, List.set_cons_zero, List.set_cons_succ]
              refine held_take (i := 11) (d := 41) (v := ?_) rfl rfl (by kernel_rfl) (by kernel_rfl) (by kernel_rfl) (fun _ _ _ h => h) (by rfl) ?_ (by assumption) ?_
              rotate_left
              · intro w hSw
                (try dsimp only at hSw)
                go_simp
                try with_reducible rfl
              try simp only [Act.put, List.setIfInBounds_toArray, List.set_cons_zero, List.set_cons_succ]
              refine held_take (i := 12) (d := 42) (v := ?_) rfl rfl (by kernel_rfl) (by kernel_rfl) (by kernel_rfl) (fun _ _ _ h => h) (by rfl) ?_ (by assumption) ?_
              rotate_left
              · intro w hSw
                (try dsimp only at hSw)
                go_simp
                try with_reducible rfl
              try simp only [Act.put, List.setIfInBounds_toArray, List.set_cons_zero, List.set_cons_succ]
              refine held_take (i := 13) (d := 43) (v := ?_) rfl rfl (by kernel_rfl) (by kernel_rfl) (by kernel_rfl) (fun _ _ _ h => h) (by rfl) ?_ (by assumption) ?_
              rotate_left
              · intro w hSw
                (try dsimp only at hSw)
                go_simp
                try with_reducible rfl
              try simp only [Act.put, List.setIfInBounds_toArray, List.set_cons_zero, List.set_cons_succ]
              refine held_take (i := 14) (d := 44) (v := ?_) rfl rfl (by kernel_rfl) (by kernel_rfl) (by kernel_rfl) (fun _ _ _ h => h) (by rfl) ?_ (by assumption) ?_
              rotate_left
              · intro w hSw
                (try dsimp only at hSw)
                go_simp
                try with_reducible rfl
              try simp only [Act.put, List.setIfInBounds_toArray, List.set_cons_zero, List.set_cons_succ]
              refine held_take (i := 15) (d := 45) (v := ?_) rfl rfl (by kernel_rfl) (by kernel_rfl) (by kernel_rfl) (fun _ _ _ h => h) (by rfl) ?_ (by assumption) ?_
              rotate_left
              · intro w hSw
                (try dsimp only at hSw)
                go_simp
                try with_reducible rfl
              try simp only [Act.put, List.setIfInBounds_toArray, List.set_cons_zero, List.set_cons_succ]
              refine held_take (i := 16) (d := 46) (v := ?_) rfl rfl (by kernel_rfl) (by kernel_rfl) (by kernel_rfl) (fun _ _ _ h => h) (by rfl) ?_ (by assumption) ?_
              rotate_left
              · intro w hSw
                (try dsimp only at hSw)
                go_simp
                try with_reducible rfl
              try simp only [Act.put, List.setIfInBounds_toArray, List.set_cons_zero, List.set_cons_succ]
              refine held_take (i := 17) (d := 47) (v := ?_) rfl rfl (by kernel_rfl) (by kernel_rfl) (by kernel_rfl) (fun _ _ _ h => h) (by rfl) ?_ (by assumption) ?_
              rotate_left
              · intro w hSw
                (try dsimp only at hSw)
                go_simp
                try with_reducible rfl
              try simp only [Act.put, List.setIfInBounds_toArray, List.set_cons_zero, List.set_cons_succ]
              refine held_take (i := 18) (d := 48) (v := ?_) rfl rfl (by kernel_rfl) (by kernel_rfl) (by kernel_rfl) (fun _ _ _ h => h) (by rfl) ?_ (by assumption) ?_
              rotate_left
              · intro w hSw
                (try dsimp only at hSw)
                go_simp
                try with_reducible rfl
              try simp only [Act.put, List.setIfInBounds_toArray, List.set_cons_zero, List.set_cons_succ]
              refine held_take (i := 19) (d := 49) (v := ?_) rfl rfl (by kernel_rfl) (by kernel_rfl) (by kernel_rfl) (fun _ _ _ h => h) (by rfl) ?_ (by assumption) ?_
              rotate_left
              · intro w hSw
                (try dsimp only at hSw)
                go_simp
                try with_reducible rfl
              try simp only [Act.put, List.setIfInBounds_toArray, List.set_cons_zero, List.set_cons_succ]
              refine held_take (i := 20) (d := 50) (v := ?_) rfl rfl (by kernel_rfl) (by kernel_rfl) (by kernel_rfl) (fun _ _ _ h => h) (by rfl) ?_ (by assumption) ?_
              rotate_left
              · intro w hSw
                (try dsimp only at hSw)
                go_simp
                try with_reducible rfl
              try simp only [Act.put, List.setIfInBounds_toArray, List.set_cons_zero, List.set_cons_succ]
              refine held_take (i := 21) (d := 51) (v := ?_) rfl rfl (by kernel_rfl) (by kernel_rfl) (by kernel_rfl) (fun _ _ _ h => h) (by rfl) ?_ (by assumption) ?_
              rotate_left
              · intro w hSw
                (try dsimp only at hSw)
                go_simp
                try with_reducible rfl
              try simp only [Act.put, List.setIfInBounds_toArray, List.set_cons_zero, List.set_cons_succ]
              refine held_take (i := 22) (d := 52) (v := ?_) rfl rfl (by kernel_rfl) (by kernel_rfl) (by kernel_rfl) (fun _ _ _ h => h) (by rfl) ?_ (by assumption) ?_
              rotate_left
              · intro w hSw
                (try dsimp only at hSw)
                go_simp
                try with_reducible rfl
              try simp only [Act.put, List.setIfInBounds_toArray, List.set_cons_zero, List.set_cons_succ]
              refine held_take (i := 23) (d := 53) (v := ?_) rfl rfl (by kernel_rfl) (by kernel_rfl) (by kernel_rfl) (fun _ _ _ h => h) (by rfl) ?_ (by assumption) ?_
              rotate_left
              · intro w hSw
                (try dsimp only at hSw)
                go_simp
                try with_reducible rfl
              try simp only [Act.put, List.setIfInBounds_toArray, List.set_cons_zero, List.set_cons_succ]
              refine held_take (i := 24) (d := 29) (v := ?_) rfl rfl (by kernel_rfl) (by kernel_rfl) (by kernel_rfl) (fun _ _ _ h => h) (by rfl) ?_ (by assumption) ?_
              rotate_left
              · intro w hSw
                (try dsimp only at hSw)
                go_simp
                try with_reducible rfl
              try simp only [Act.put, List.setIfInBounds_toArray, List.set_cons_zero, List.set_cons_succ]
              refine wpAnyH_done (by kernel_rfl) ?_ _
              go_split_ands
              have h29 : BX w2 w9 := by assumption
              have A9 := Lib.hid (HAB.out w9 h29)
              go_wp2_with fail
              go_ret
              exact ⟨ret_bool (by rw [← HX.out]; rfl), A9.out.all.2⟩
        · have HX : Hid (false = B) := Lib.hid (by rw [← HP.out, HE.out, HQ.out, hi, Bool.false_and, Bool.false_and])
          rw [hi] at HIx
          obtain ⟨xi, xp, xr, xe, xb, xu, xo, xl⟩ := x
          simp only at a0 a1 a2 a3 a4 a5 a6 a7 HB5 f0 f1 f2 f3 HIx dz
          clear hb ht hx hz HWY HTM HIN HFI hl1 HQ hi
          go_wp2_with (go_at_call 65; refine (HWk.out _ (Lib.hid (HI.out.below HB5.out.all.2))).mono ?_; rintro e w2 ⟨rfl, b2⟩; have A2 := Lib.hid (HB5.out.on b2); obtain ⟨c0, c1, c2, c3, _⟩ := A2.out.all.1; have X0 := ((bcell b2).1 wr.heap.size 0 (by simp)).trans (show (wr.alloc (Obj.cells #[.int .i64 xi, .int .i64 xp, .int .i64 xr, .int .i64 xe, .int .i64 xb, .int .i64 xu, .int .i64 xo, .int .i64 xl] 62)).cell? ⟨wr.heap.size, 0, none⟩ = some (.int .i64 xi) by simp [go_sem]); have X1 := ((bcell b2).1 wr.heap.size 1 (by simp)).trans (show (wr.alloc (Obj.cells #[.int .i64 xi, .int .i64 xp, .int .i64 xr, .int .i64 xe, .int .i64 xb, .int .i64 xu, .int .i64 xo, .int .i64 xl] 62)).cell? ⟨wr.heap.size, 1, none⟩ = some (.int .i64 xp) by simp [go_sem]);  have HWR2 : wr.heap.size < w2.heap.size := (Nat.lt_of_lt_of_le (by simp) b2.size); clear b2; refine Hid.out ?_)
          refine Lib.hid ?_
          have hwr2 : wr.heap.size < w2.heap.size := HWR2
          have HAB : Hid (∀ w', BX w2 w' → Aft w (Obj.cells #[.string s, .slice (some ⟨g, 0, none⟩) n cc, .slice af m cf, .int .i64 d] 32) w') := Lib.hid (fun w' h => A2.out.on h)
          have HQ : Hid (∀ w', BX w2 w' → w'.cell? ⟨w.heap.size, 1, none⟩ = some (.slice (some ⟨g, 0, none⟩) n cc) ∧ w'.cell? ⟨wr.heap.size, 0, none⟩ = some (.int .i64 xi) ∧ BX w2 w') := Lib.hid (fun w' h => by
            obtain ⟨_, q1, _, _, _⟩ := (HAB.out w' h).all.1
            exact ⟨q1, ((bcell (show Below w2.heap.size w2 w' from h)).1 _ 0 hwr2).trans X0, h⟩)
          go_wp2_with fail
          refine wp_region_held_drew (S := fun w' => w'.cell? ⟨w.heap.size, 1, none⟩ = some (.slice (some ⟨g, 0, none⟩) n cc) ∧ w'.cell? ⟨wr.heap.size, 0, none⟩ = some (.int .i64 xi) ∧ BX w2 w') (by kernel_rfl) ?_ (fun hHeld => ?_)
          · (try dsimp only)
            (first | (go_split_ands; refine HQ.out _ ?_; repeat' (with_reducible first | exact BX.drew0 _ | exact BX.refl _ | assumption | refine BX.call' (by assumption) ?_ | refine BX.drew ?_)))
          refine held_take (i := 0) (d := 30) (v := ?_) rfl rfl (by kernel_rfl) (by kernel_rfl) (by kernel_rfl) (fun _ _ _ h => h) (by rfl) ?_ (by assumption) ?_
          rotate_left
          · intro w hSw
            (try dsimp only at hSw)
            go_simp
            try with_reducible rfl
          try simp only [Act.put, List.setIfInBounds_toArray, List.set_cons_zero, List.set_cons_succ]
          refine held_take (i := 1) (d := 31) (v := ?_) rfl rfl (by kernel_rfl) (by kernel_rfl) (by kernel_rfl) (fun _ _ _ h => h) (by rfl) ?_ (by assumption) ?_
          rotate_left
          · intro w hSw
            (try dsimp only at hSw)
            go_simp
            try with_reducible rfl
          try simp only [Act.put, List.setIfInBounds_toArray, List.set_cons_zero, List.set_cons_succ]
          refine held_take (i := 2) (d := 32) (v := ?_) rfl rfl (by kernel_rfl) (by kernel_rfl) (by kernel_rfl) (fun _ _ _ h => h) (by rfl) ?_ (by assumption) ?_
          rotate_left
          · intro w hSw
            (try dsimp only at hSw)
            go_simp
            try with_reducible rfl
          try simp only [Act.put, List.setIfInBounds_toArray, List.set_cons_zero, List.set_cons_succ]
          refine held_take (i := 3) (d := 33) (v := ?_) rfl rfl (by kernel_rfl) (by kernel_rfl) (by kernel_rfl) (fun _ _ _ h => h) (by rfl) ?_ (by assumption) ?_
          rotate_left
          · intro w hSw
            (try dsimp only at hSw)
            go_simp
            try with_reducible rfl
          try simp only [Act.put, List.setIfInBounds_toArray, List.set_cons_zero, List.set_cons_succ]
          refine held_take (i := 4) (d := 34) (v := ?_) rfl rfl (by kernel_rfl) (by kernel_rfl) (by kernel_rfl) (fun _ _ _ h => h) (by rfl) ?_ (by assumption) ?_
          rotate_left
          · intro w hSw
            (try dsimp only at hSw)
            go_simp
            try with_reducible rfl
          try simp only [Act.put, List.setIfInBounds_toArray, List.set_cons_zero, List.set_cons_succ]
          refine wpAnyH_ready (rs := [5]) (by kernel_rfl) (by simp) ?_
          refine AllReadyH.cons rfl (fun K' hK => ?_) AllReadyH.nil
          go_simp
          (go_split_ands; (with_reducible refine (HIx.out _).mono ?_); rintro e w9 ⟨rfl, b9⟩)
          refine hK.out _ _ ?_ (fun hHeld => ?_)
          · (try dsimp only)
            (first | (go_split_ands; refine HQ.out _ ?_; repeat' (with_reducible first | exact BX.drew0 _ | exact BX.refl _ | assumption | refine BX.call' (by assumption) ?_ | refine BX.drew ?_)))
          clear hK K'
          try simp only [Act.put, List.setIfInBounds_toArray, List.set_cons_zero, List.set_cons_succ]
          refine held_take (i := 6) (d := 36) (v := ?_) rfl rfl (by kernel_rfl) (by kernel_rfl) (by kernel_rfl) (fun _ _ _ h => h) (by rfl) ?_ (by assumption) ?_
          rotate_left
          · intro w hSw
            (try dsimp only at hSw)
            go_simp
            try with_reducible rfl
          try simp only [Act.put, List.setIfInBounds_toArray, List.set_cons_zero, List.set_cons_succ]
          refine held_take (i := 7) (d := 37) (v := ?_) rfl rfl (by kernel_rfl) (by kernel_rfl) (by kernel_rfl) (fun _ _ _ h => h) (by rfl) ?_ (by assumption) ?_
          rotate_left
          · intro w hSw
            (try dsimp only at hSw)
            go_simp
            try with_reducible rfl
          try simp only [Act.put, List.setIfInBounds_toArray, List.set_cons_zero, List.set_cons_succ]
          refine held_skip (i := 8) (d := 38) rfl rfl (by kernel_rfl) (by kernel_rfl) (by kernel_rfl) (fun _ _ _ h => h) (by rfl) (by assumption) ?_
          try simp only [Act.put, List.setIfInBounds_toArray, List.set_cons_zero, List.set_cons_succ]
          refine held_skip (i := 9) (d := 39) rfl rfl (by kernel_rfl) (by kernel_rfl) (by kernel_rfl) (fun _ _ _ h => h) (by rfl) (by assumption) ?_
          try simp only [Act.put, List.setIfInBounds_toArray, List.set_cons_zero, List.set_cons_succ]
          refine held_skip (i := 10) (d := 40) rfl rfl (by kernel_rfl) (by kernel_rfl) (by kernel_rfl) (fun _ _ _ h => h) (by rfl) (by assumption) ?_
          try simp only [Act.put, List.setIfInBounds_toArray, List.set_cons_zero, List.set_cons_succ]
          refine held_skip (i := 11) (d := 41) rfl rfl (by kernel_rfl) (by kernel_rfl) (by kernel_rfl) (fun _ _ _ h => h) (by rfl) (by assumption) ?_
          try simp only [Act.put, List.setIfInBounds_toArray, List.set_cons_zero, List.set_cons_succ]
          refine held_skip (i := 12) (d := 42) rfl rfl (by kernel_rfl) (by kernel_rfl) (by kernel_rfl) (fun _ _ _ h => h) (by rfl) (by assumption) ?_
          try simp only [Act.put, List.setIfInBounds_toArray, List.set_cons_zero, List.set_cons_succ]
          refine held_skip (i := 13) (d := 43) rfl rfl (by kernel_rfl) (by kernel_rfl) (by kernel_rfl) (fun _ _ _ h => h) (by rfl) (by assumption) ?_
          try simp only [Act.put, List.setIfInBounds_toArray, List.set_cons_zero, List.set_cons_succ]
          refine held_skip (i := 14) (d := 44) rfl rfl (by kernel_rfl) (by kernel_rfl) (by kernel_rfl) (fun _ _ _ h => h) (by rfl) (by assumption) ?_
          try simp only [Act.put, List.setIfInBounds_toArray, List.set_cons_zero, List.set_cons_succ]
          refine held_skip (i := 15) (d := 45) rfl rfl (by kernel_rfl) (by kernel_rfl) (by kernel_rfl) (fun _ _ _ h => h) (by rfl) (by assumption) ?_
          try simp only [Act.put, List.setIfInBounds_toArray, List.set_cons_zero, List.set_cons_succ]
          refine held_skip (i := 16) (d := 46) rfl rfl (by kernel_rfl) (by kernel_rfl) (by kernel_rfl) (fun _ _ _ h => h) (by rfl) (by assumption) ?_
          try simp only [Act.put, List.setIfInBounds_toArray, List.set_cons_zero, List.set_cons_succ]
          refine held_skip (i := 17) (d := 47) rfl rfl (by kernel_rfl) (by kernel_rfl) (by kernel_rfl) (fun _ _ _ h => h) (by rfl) (by assumption) ?_
          try simp only [Act.put, List.setIfInBounds_toArray, List.set_cons_zero, List.set_cons_succ]
          refine held_skip (i := 18) (d := 48) rfl rfl (by kernel_rfl) (by kernel_rfl) (by kernel_rfl) (fun _ _ _ h => h) (by rfl) (by assumption) ?_
          try simp only [Act.put, List.setIfInBounds_toArray, List.set_cons_zero, List.set_cons_succ]
          refine held_skip (i := 19) (d := 49) rfl rfl (by kernel_rfl) (by kernel_rfl) (by kernel_rfl) (fun _ _ _ h => h) (by rfl) (by assumption) ?_
          try simp only [Act.put, List.setIfInBounds_toArray, List.set_cons_zero, List.set_cons_succ]
          refine held_skip (i := 20) (d := 50) rfl rfl (by kernel_rfl) (by kernel_rfl) (by kernel_rfl) (fun _ _ _ h => h) (by rfl) (by assumption) ?_
          try simp only [Act.put, List.setIfInBounds_toArray, List.set_cons_zero, List.set_cons_succ]
          refine held_skip (i := 21) (d := 51) rfl rfl (by kernel_rfl) (by kernel_rfl) (by kernel_rfl) (fun _ _ _ h => h) (by rfl) (by assumption) ?_
          try simp only [Act.put, List.setIfInBounds_toArray, List.set_cons_zero, List.set_cons_succ]
          refine held_take (i := 22) (d := 52) (v := ?_) rfl rfl (by kernel_rfl) (by kernel_rfl) (by kernel_rfl) (fun _ _ _ h => h) (by rfl) ?_ (by assumption) ?_
          rotate_left
          · intro w hSw
            (try dsimp only at hSw)
            go_simp
            try with_reducible rfl
          try simp only [Act.put, List.setIfInBounds_toArray, List.set_cons_zero, List.set_cons_succ]
          refine held_take (i := 23) (d := 53) (v := ?_) rfl rfl (by kernel_rfl) (by kernel_rfl) (by kernel_rfl) (fun _ _ _ h => h) (by rfl) ?_ (by assumption) ?_
          rotate_left
          · intro w hSw
            (try dsimp only at hSw)
            go_simp
            try with_reducible rfl
          try simp only [Act.put, List.setIfInBounds_toArray, List.set_cons_zero, List.set_cons_succ]
          refine held_take (i := 24) (d := 29) (v := ?_) rfl rfl (by kernel_rfl) (by kernel_rfl) (by kernel_rfl) (fun _ _ _ h => h) (by rfl) ?_ (by assumption) ?_
          rotate_left
          · intro w hSw
            (try dsimp only at hSw)
            go_simp
            try with_reducible rfl
          try simp only [Act.put, List.setIfInBounds_toArray, List.set_cons_zero, List.set_cons_succ]
          refine wpAnyH_done (by kernel_rfl) ?_ _
          go_split_ands
          have h29 : BX w2 w9 := by assumption
          have A9 := Lib.hid (HAB.out w9 h29)
          go_wp2_with fail
          go_ret
          exact ⟨ret_bool (by rw [← HX.out]; rfl), A9.out.all.2⟩
      · have HZ : Hid (cT (cs.take (k + 1)) = z) := Lib.hid (by rw [HTM.out, if_neg hz]; rfl)
        have dz : (x.p == 0) = false := by simpa using hz
        have HIx := Lib.hid (fun w' => l1In_low x.i 1 999 w')
        have HQ : Hid (Q2 cs k = (inB x.i 1 999 && ((k == 0) || decide ((cs.getD (k - 1) cls0).i < x.i)))) := Lib.hid (by unfold Q2; rw [hx])
        rcases Bool.eq_false_or_eq_true (inB x.i 1 999) with hi | hi
        · rw [hi] at HIx
          by_cases hk0 : k = 0
          · have HX : Hid (fromK (Q2 cs) n (k + 1) = B) := Lib.hid (by rw [← HP.out, HE.out, HQ.out, hi, hk0]; rfl)
            have dk := not_lt (show (k : Int) ≤ 0 by omega)
            have dkn : decide (0 < k) = false := decide_eq_false (by omega)
            obtain ⟨xi, xp, xr, xe, xb, xu, xo, xl⟩ := x
            simp only at a0 a1 a2 a3 a4 a5 a6 a7 HB5 f0 f1 f2 f3 HIx dz
            clear hb ht hx hz HWY HTM HIN HFI hl1 HQ hi hk0
            go_wp2_with (go_at_call 65; refine (HWk.out _ (Lib.hid (HI.out.below HB5.out.all.2))).mono ?_; rintro e w2 ⟨rfl, b2⟩; have A2 := Lib.hid (HB5.out.on b2); obtain ⟨c0, c1, c2, c3, _⟩ := A2.out.all.1; have X0 := ((bcell b2).1 wr.heap.size 0 (by simp)).trans (show (wr.alloc (Obj.cells #[.int .i64 xi, .int .i64 xp, .int .i64 xr, .int .i64 xe, .int .i64 xb, .int .i64 xu, .int .i64 xo, .int .i64 xl] 62)).cell? ⟨wr.heap.size, 0, none⟩ = some (.int .i64 xi) by simp [go_sem]); have X1 := ((bcell b2).1 wr.heap.size 1 (by simp)).trans (show (wr.alloc (Obj.cells #[.int .i64 xi, .int .i64 xp, .int .i64 xr, .int .i64 xe, .int .i64 xb, .int .i64 xu, .int .i64 xo, .int .i64 xl] 62)).cell? ⟨wr.heap.size, 1, none⟩ = some (.int .i64 xp) by simp [go_sem]);  have HWR2 : wr.heap.size < w2.heap.size := (Nat.lt_of_lt_of_le (by simp) b2.size); clear b2; refine Hid.out ?_)
            refine Lib.hid ?_
            have hwr2 : wr.heap.size < w2.heap.size := HWR2
            have HAB : Hid (∀ w', BX w2 w' → Aft w (Obj.cells #[.string s, .slice (some ⟨g, 0, none⟩) n cc, .slice af m cf, .int .i64 d] 32) w') := Lib.hid (fun w' h => A2.out.on h)
            have HQ : Hid (∀ w', BX w2 w' → w'.cell? ⟨w.heap.size, 1, none⟩ = some (.slice (some ⟨g, 0, none⟩) n cc) ∧ w'.cell? ⟨wr.heap.size, 0, none⟩ = some (.int .i64 xi) ∧ BX w2 w') := Lib.hid (fun w' h => by
              obtain ⟨_, q1, _, _, _⟩ := (HAB.out w' h).all.1
              exact ⟨q1, ((bcell (show Below w2.heap.size w2 w' from h)).1 _ 0 hwr2).trans X0, h⟩)
            go_wp2_with fail
            refine wp_region_held_drew (S := fun w' => w'.cell? ⟨w.heap.size, 1, none⟩ = some (.slice (some ⟨g, 0, none⟩) n cc) ∧ w'.cell? ⟨wr.heap.size, 0, none⟩ = some (.int .i64 xi) ∧ BX w2 w') (by kernel_rfl) ?_ (fun hHeld => ?_)
            · (try dsimp only)
              (first | (go_split_ands; refine HQ.out _ ?_; repeat' (with_reducible first | exact BX.drew0 _ | exact BX.refl _ | assumption | refine BX.call' (by assumption) ?_ | refine BX.drew ?_)))
            refine held_take (i := 0) (d := 30) (v := ?_) rfl rfl (by kernel_rfl) (by kernel_rfl) (by kernel_rfl) (fun _ _ _ h => h) (by rfl) ?_ (by assumption) ?_
            rotate_left
            · intro w hSw
              (try dsimp only at hSw)
              go_simp
              try with_reducible rfl
            try simp only [Act.put, List.setIfInBounds_toArray, List.set_cons_zero, List.set_cons_succ]
            refine held_take (i := 1) (d := 31) (v := ?_) rfl rfl (by kernel_rfl) (by kernel_rfl) (by kernel_rfl) (fun _ _ _ h => h) (by rfl) ?_ (by assumption) ?_
            rotate_left
            · intro w hSw
              (try dsimp only at hSw)
              go_simp
              try with_reducible rfl
            try simp only [Act.put, List.setIfInBounds_toArray, List.set_cons_zero, List.set_cons_succ]
            refine held_take (i := 2) (d := 32) (v := ?_) rfl rfl (by kernel_rfl) (by kernel_rfl) (by kernel_rfl) (fun _ _ _ h => h) (by rfl) ?_ (by assumption) ?_
            rotate_left
            · intro w hSw
              (try dsimp only at hSw)
              go_simp
              try with_reducible rfl
            try simp only [Act.put, List.setIfInBounds_toArray, List.set_cons_zero, List.set_cons_succ]
            refine held_take (i := 3) (d := 33) (v := ?_) rfl rfl (by kernel_rfl) (by kernel_rfl) (by kernel_rfl) (fun _ _ _ h => h) (by rfl) ?_ (by assumption) ?_
            rotate_left
            · intro w hSw
              (try dsimp only at hSw)
              go_simp
              try with_reducible rfl
            try simp only [Act.put, List.setIfInBounds_toArray, List.set_cons_zero, List.set_cons_succ]
            refine held_take (i := 4) (d := 34) (v := ?_) rfl rfl (by kernel_rfl) (by kernel_rfl) (by kernel_rfl) (fun _ _ _ h => h) (by rfl) ?_ (by assumption) ?_
            rotate_left
            · intro w hSw
              (try dsimp only at hSw)
              go_simp
              try with_reducible rfl
            try simp only [Act.put, List.setIfInBounds_toArray, List.set_cons_zero, List.set_cons_succ]
            refine wpAnyH_ready (rs := [5]) (by kernel_rfl) (by simp) ?_
            refine AllReadyH.cons rfl (fun K' hK => ?_) AllReadyH.nil
            go_simp
            (go_split_ands; (with_reducible refine (HIx.out _).mono ?_); rintro e w9 ⟨rfl, b9⟩)
            refine hK.out _ _ ?_ (fun hHeld => ?_)
            · (try dsimp only)
              (first | (go_split_ands; refine HQ.out _ ?_; repeat' (with_reducible first | exact BX.drew0 _ | exact BX.refl _ | assumption | refine BX.call' (by assumption) ?_ | refine BX.drew ?_)))
            clear hK K'
            try simp only [Act.put, List.setIfInBounds_toArray, List.set_cons_zero, List.set_cons_succ]
            refine held_take (i := 6) (d := 36) (v := ?_) rfl rfl (by kernel_rfl) (by kernel_rfl) (by kernel_rfl) (fun _ _ _ h => h) (by rfl) ?_ (by assumption) ?_
            rotate_left
            · intro w hSw
              (try dsimp only at hSw)
              go_simp
              try with_reducible rfl
            try simp only [Act.put, List.setIfInBounds_toArray, List.set_cons_zero, List.set_cons_succ]
            refine held_take (i := 7) (d := 37) (v := ?_) rfl rfl (by kernel_rfl) (by kernel_rfl) (by kernel_rfl) (fun _ _ _ h => h) (by rfl) ?_ (by assumption) ?_
            rotate_left
            · intro w hSw
              (try dsimp only at hSw)
              go_simp
              try with_reducible rfl
            try simp only [Act.put, List.setIfInBounds_toArray, List.set_cons_zero, List.set_cons_succ]
            refine held_take (i := 8) (d := 38) (v := ?_) rfl rfl (by kernel_rfl) (by kernel_rfl) (by kernel_rfl) (fun _ _ _ h => h) (by rfl) ?_ (by assumption) ?_
            rotate_left
            · intro w hSw
              (try dsimp only at hSw)
              go_simp
              try with_reducible rfl
            try simp only [Act.put, List.setIfInBounds_toArray, List.set_cons_zero, List.set_cons_succ]
            refine held_take (i := 9) (d := 39) (v := ?_) rfl rfl (by kernel_rfl) (by kernel_rfl) (by kernel_rfl) (fun _ _ _ h => h) (by rfl) ?_ (by assumption) ?_
            rotate_left
            · intro w hSw
              (try dsimp only at hSw)
              go_simp
              try with_reducible rfl
            try simp only [Act.put, List.setIfInBounds_toArray, List.set_cons_zero, List.set_cons_succ]
            refine held_take (i := 10) (d := 40) (v := ?_) rfl rfl (by kernel_rfl) (by kernel_rfl) (by kernel_rfl) (fun _ _ _ h => h) (by rfl) ?_ (by assumption) ?_
            rotate_left
            · intro w hSw
              (try dsimp only at hSw)
              go_simp
              try with_reducible rfl
            try simp only [Act.put, List.setIfInBounds_toArray, List.set_cons_zero, List.set_cons_succ]
            refine held_skip (i := 11) (d := 41) rfl rfl (by kernel_rfl) (by kernel_rfl) (by kernel_rfl) (fun _ _ _ h => h) (by rfl) (by assumption) ?_
            try simp only [Act.put, List.setIfInBounds_toArray, List.set_cons_zero, List.set_cons_succ]
            refine held_skip (i := 12) (d := 42) rfl rfl (by kernel_rfl) (by kernel_rfl) (by kernel_rfl) (fun _ _ _ h => h) (by rfl) (by assumption) ?_
            try simp only [Act.put, List.setIfInBounds_toArray, List.set_cons_zero, List.set_cons_succ]
            refine held_skip (i := 13) (d := 43) rfl rfl (by kernel_rfl) (by kernel_rfl) (by kernel_rfl) (fun _ _ _ h => h) (by rfl) (by assumption) ?_
            try simp only [Act.put, List.setIfInBounds_toArray, List.set_cons_zero, List.set_cons_succ]
            refine held_skip (i := 14) (d := 44) rfl rfl (by kernel_rfl) (by kernel_rfl) (by kernel_rfl) (fun _ _ _ h => h) (by rfl) (by assumption) ?_
            try simp only [Act.put, List.setIfInBounds_toArray, List.set_cons_zero, List.set_cons_succ]
            refine held_skip (i := 15) (d := 45) rfl rfl (by kernel_rfl) (by kernel_rfl) (by kernel_rfl) (fun _ _ _ h => h) (by rfl) (by assumption) ?_
            try simp only [Act.put, List.setIfInBounds_toArray, List.set_cons_zero, List.set_cons_succ]
            refine held_skip (i := 16) (d := 46) rfl rfl (by kernel_rfl) (by kernel_rfl) (by kernel_rfl) (fun _ _ _ h => h) (by rfl) (by assumption) ?_
            try simp only [Act.put, List.setIfInBounds_toArray, List.set_cons_zero, List.set_cons_succ]
            refine held_skip (i := 17) (d := 47) rfl rfl (by kernel_rfl) (by kernel_rfl) (by kernel_rfl) (fun _ _ _ h => h) (by rfl) (by assumption) ?_
            try simp only [Act.put, List.setIfInBounds_toArray, List.set_cons_zero, List.set_cons_succ]
            refine held_skip (i := 18) (d := 48) rfl rfl (by kernel_rfl) (by kernel_rfl) (by kernel_rfl) (fun _ _ _ h => h) (by rfl) (by assumption) ?_
            try simp only [Act.put, List.setIfInBounds_toArray, List.set_cons_zero, List.set_cons_succ]
            refine held_skip (i := 19) (d := 49) rfl rfl (by kernel_rfl) (by kernel_rfl) (by kernel_rfl) (fun _ _ _ h => h) (by rfl) (by assumption) ?_
            try simp only [Act.put, List.setIfInBounds_toArray, List.set_cons_zero, List.set_cons_succ]
            refine held_skip (i := 20) (d := 50) rfl rfl (by kernel_rfl) (by kernel_rfl) (by kernel_rfl) (fun _ _ _ h => h) (by rfl) (by assumption) ?_
            try simp only [Act.put, List.setIfInBounds_toArray, List.set_cons_zero, List.set_cons_succ]
            refine held_take (i := 21) (d := 51) (v := ?_) rfl rfl (by kernel_rfl) (by kernel_rfl) (by kernel_rfl) (fun _ _ _ h => h) (by rfl) ?_ (by assumption) ?_
            rotate_left
            · intro w hSw
              (try dsimp only at hSw)
              go_simp
              try with_reducible rfl
            try simp only [Act.put, List.setIfInBounds_toArray, List.set_cons_zero, List.set_cons_succ]
            refine held_take (i := 22) (d := 52) (v := ?_) rfl rfl (by kernel_rfl) (by kernel_rfl) (by kernel_rfl) (fun _ _ _ h => h) (by rfl) ?_ (by assumption) ?_
            rotate_left
            · intro w hSw
              (try dsimp only at hSw)
              go_simp
              try with_reducible rfl
            try simp only [Act.put, List.setIfInBounds_toArray, List.set_cons_zero, List.set_cons_succ]
            refine held_take (i := 23) (d := 53) (v := ?_) rfl rfl (by kernel_rfl) (by kernel_rfl) (by kernel_rfl) (fun _ _ _ h => h) (by rfl) ?_ (by assumption) ?_
            rotate_left
            · intro w hSw
              (try dsimp only at hSw)
              go_simp
              try with_reducible rfl
            try simp only [Act.put, List.setIfInBounds_toArray, List.set_cons_zero, List.set_cons_succ]
            refine held_take (i := 24) (d := 29) (v := ?_) rfl rfl (by kernel_rfl) (by kernel_rfl) (by kernel_rfl) (fun _ _ _ h => h) (by rfl) ?_ (by assumption) ?_
            rotate_left
            · intro w hSw
              (try dsimp only at hSw)
              go_simp
              try with_reducible rfl
            try simp only [Act.put, List.setIfInBounds_toArray, List.set_cons_zero, List.set_cons_succ]
            refine wpAnyH_done (by kernel_rfl) ?_ _
            go_split_ands
            have h29 : BX w2 w9 := by assumption
            have A9 := Lib.hid (HAB.out w9 h29)
            go_wp2_with fail
            go_roundw
            case rel => exact ⟨k + 1, by omega, by go_num, by rw [HZ.out], A9.out, HX⟩
            case measure => simp [intOf]; omega
          · obtain ⟨y, hy⟩ : ∃ y, cs.getD (k - 1) cls0 = y := ⟨_, rfl⟩
            have HY := Lib.hid hy
            have dk := is_lt (show (0 : Int) < (k : Int) by omega)
            have dkn : decide (0 < k) = true := decide_eq_true (by omega)
            have dk2 : (0 : Int) ≤ (k : Int) - 1 := by omega
            have dk5 : (1 : Int) ≤ (k : Int) := by omega
            have dk3 : (k : Int) - 1 < (n : Int) := by omega
            have dk4 : ((k : Int) - 1).toNat = k - 1 := by omega
            have dk1 : IntKind.i64.wrap ((k : Int) - 1) = (k : Int) - 1 := IntWalk.i64_in _ (by omega)
            rcases Int.lt_or_le y.i x.i with hc | hc
            · have HX : Hid (fromK (Q2 cs) n (k + 1) = B) := Lib.hid (by rw [← HP.out, HE.out, HQ.out, hi, hy, decide_eq_true hc]; simp)
              have dc : decide (x.i ≤ y.i) = false := not_le hc
              obtain ⟨xi, xp, xr, xe, xb, xu, xo, xl⟩ := x
              simp only at a0 a1 a2 a3 a4 a5 a6 a7 HB5 f0 f1 f2 f3 HIx dz dc
              clear hb ht hx hz HWY HTM HIN HFI hl1 HQ hi hy hc hk0
              go_wp2_with (go_at_call 65; refine (HWk.out _ (Lib.hid (HI.out.below HB5.out.all.2))).mono ?_; rintro e w2 ⟨rfl, b2⟩; have A2 := Lib.hid (HB5.out.on b2); obtain ⟨c0, c1, c2, c3, _⟩ := A2.out.all.1; have X0 := ((bcell b2).1 wr.heap.size 0 (by simp)).trans (show (wr.alloc (Obj.cells #[.int .i64 xi, .int .i64 xp, .int .i64 xr, .int .i64 xe, .int .i64 xb, .int .i64 xu, .int .i64 xo, .int .i64 xl] 62)).cell? ⟨wr.heap.size, 0, none⟩ = some (.int .i64 xi) by simp [go_sem]); have X1 := ((bcell b2).1 wr.heap.size 1 (by simp)).trans (show (wr.alloc (Obj.cells #[.int .i64 xi, .int .i64 xp, .int .i64 xr, .int .i64 xe, .int .i64 xb, .int .i64 xu, .int .i64 xo, .int .i64 xl] 62)).cell? ⟨wr.heap.size, 1, none⟩ = some (.int .i64 xp) by simp [go_sem]); have p0 := ((HG.out.below A2.out.all.2 hg).cls (k - 1) (by rw [hn.out]; omega) _ HY.out).1; have HWR2 : wr.heap.size < w2.heap.size := (Nat.lt_of_lt_of_le (by simp) b2.size); clear b2; refine Hid.out ?_)
              refine Lib.hid ?_
              have hwr2 : wr.heap.size < w2.heap.size := HWR2
              have HAB : Hid (∀ w', BX w2 w' → Aft w (Obj.cells #[.string s, .slice (some ⟨g, 0, none⟩) n cc, .slice af m cf, .int .i64 d] 32) w') := Lib.hid (fun w' h => A2.out.on h)
              have HQ : Hid (∀ w', BX w2 w' → w'.cell? ⟨w.heap.size, 1, none⟩ = some (.slice (some ⟨g, 0, none⟩) n cc) ∧ w'.cell? ⟨wr.heap.size, 0, none⟩ = some (.int .i64 xi) ∧ w'.cell? ⟨g, (k - 1) * 8, none⟩ = some (.int .i64 y.i) ∧ BX w2 w') := Lib.hid (fun w' h => by
                obtain ⟨_, q1, _, _, _⟩ := (HAB.out w' h).all.1
                exact ⟨q1, ((bcell (show Below w2.heap.size w2 w' from h)).1 _ 0 hwr2).trans X0, ((HG.out.below (HAB.out w' h).all.2 hg).cls (k - 1) (by rw [hn.out]; omega) _ HY.out).1, h⟩)
              go_wp2_with fail
              refine wp_region_held_drew (S := fun w' => w'.cell? ⟨w.heap.size, 1, none⟩ = some (.slice (some ⟨g, 0, none⟩) n cc) ∧ w'.cell? ⟨wr.heap.size, 0, none⟩ = some (.int .i64 xi) ∧ w'.cell? ⟨g, (k - 1) * 8, none⟩ = some (.int .i64 y.i) ∧ BX w2 w') (by kernel_rfl) ?_ (fun hHeld => ?_)
              · (try dsimp only)
                (first | (go_split_ands; refine HQ.out _ ?_; repeat' (with_reducible first | exact BX.drew0 _ | exact BX.refl _ | assumption | refine BX.call' (by assumption) ?_ | refine BX.drew ?_)))
              refine held_take (i := 0) (d := 30) (v := ?_) rfl rfl (by kernel_rfl) (by kernel_rfl) (by kernel_rfl) (fun _ _ _ h => h) (by rfl) ?_ (by assumption) ?_
              rotate_left
              · intro w hSw
                (try dsimp only at hSw)
                go_simp
                try with_reducible rfl
              try simp only [Act.put, List.setIfInBounds_toArray, List.set_cons_zero, List.set_cons_succ]
              refine held_take (i := 1) (d := 31) (v := ?_) rfl rfl (by kernel_rfl) (by kernel_rfl) (by kernel_rfl) (fun _ _ _ h => h) (by rfl) ?_ (by assumption) ?_
              rotate_left
              · intro w hSw
                (try dsimp only at hSw)
                go_simp
                try with_reducible rfl
              try simp only [Act.put, List.setIfInBounds_toArray, List.set_cons_zero, List.set_cons_succ]
              refine held_take (i := 2) (d := 32) (v := ?_) rfl rfl (by kernel_rfl) (by kernel_rfl) (by kernel_rfl) (fun _ _ _ h => h) (by rfl) ?_ (by assumption) ?_
              rotate_left
              · intro w hSw
                (try dsimp only at hSw)
                go_simp
                try with_reducible rfl
              try simp only [Act.put, List.setIfInBounds_toArray, List.set_cons_zero, List.set_cons_succ]
              refine held_take (i := 3) (d := 33) (v := ?_) rfl rfl (by kernel_rfl) (by kernel_rfl) (by kernel_rfl) (fun _ _ _ h => h) (by rfl) ?_ (by assumption) ?_
              rotate_left
              · intro w hSw
                (try dsimp only at hSw)
                go_simp
                try with_reducible rfl
              try simp only [Act.put, List.setIfInBounds_toArray, List.set_cons_zero, List.set_cons_succ]
              refine held_take (i := 4) (d := 34) (v := ?_) rfl rfl (by kernel_rfl) (by kernel_rfl) (by kernel_rfl) (fun _ _ _ h => h) (by rfl) ?_ (by assumption) ?_
              rotate_left
              · intro w hSw
                (try dsimp only at hSw)
                go_simp
                try with_reducible rfl
              try simp only [Act.put, List.setIfInBounds_toArray, List.set_cons_zero, List.set_cons_succ]
              refine wpAnyH_ready (rs := [5]) (by kernel_rfl) (by simp) ?_
              refine AllReadyH.cons rfl (fun K' hK => ?_) AllReadyH.nil
              go_simp
              (go_split_ands; (with_reducible refine (HIx.out _).mono ?_); rintro e w9 ⟨rfl, b9⟩)
              refine hK.out _ _ ?_ (fun hHeld => ?_)
              · (try dsimp only)
                (first | (go_split_ands; refine HQ.out _ ?_; repeat' (with_reducible first | exact BX.drew0 _ | exact BX.refl _ | assumption | refine BX.call' (by assumption) ?_ | refine BX.drew ?_)))
              clear hK K'
              try simp only [Act.put, List.setIfInBounds_toArray, List.set_cons_zero, List.set_cons_succ]
              refine held_take (i := 6) (d := 36) (v := ?_) rfl rfl (by kernel_rfl) (by kernel_rfl) (by kernel_rfl) (fun _ _ _ h => h) (by rfl) ?_ (by assumption) ?_
              rotate_left
              · intro w hSw
                (try dsimp only at hSw)
                go_simp
                try with_reducible rfl
              try simp only [Act.put, List.setIfInBounds_toArray, List.set_cons_zero, List.set_cons_succ]
              refine held_take (i := 7) (d := 37) (v := ?_) rfl rfl (by kernel_rfl) (by kernel_rfl) (by kernel_rfl) (fun _ _ _ h => h) (by rfl) ?_ (by assumption) ?_
              rotate_left
              · intro w hSw
                (try dsimp only at hSw)
                go_simp
                try with_reducible rfl
              try simp only [Act.put, List.setIfInBounds_toArray, List.set_cons_zero, List.set_cons_succ]
              refine held_take (i := 8) (d := 38) (v := ?_) rfl rfl (by kernel_rfl) (by kernel_rfl) (by kernel_rfl) (fun _ _ _ h => h) (by rfl) ?_ (by assumption) ?_
              rotate_left
              · intro w hSw
                (try dsimp only at hSw)
                go_simp
                try with_reducible rfl
              try simp only [Act.put, List.setIfInBounds_toArray, List.set_cons_zero, List.set_cons_succ]
              refine held_take (i := 9) (d := 39) (v := ?_) rfl rfl (by kernel_rfl) (by kernel_rfl) (by kernel_rfl) (fun _ _ _ h => h) (by rfl) ?_ (by assumption) ?_
              rotate_left
              · intro w hSw
                (try dsimp only at hSw)
                go_simp
                try with_reducible rfl
              try simp only [Act.put, List.setIfInBounds_toArray, List.set_cons_zero, List.set_cons_succ]
              refine held_take (i := 10) (d := 40) (v := ?_) rfl rfl (by kernel_rfl) (by kernel_rfl) (by kernel_rfl) (fun _ _ _ h => h) (by rfl) ?_ (by assumption) ?_
              rotate_left
              · intro w hSw
                (try dsimp only at hSw)
                go_simp
                try with_reducible rfl
              try simp only [Act.put, List.setIfInBounds_toArray, List.set_cons_zero, List.set_cons_succ]
              refine held_take (i := 11) (d := 41) (v := ?_) rfl rfl (by kernel_rfl) (by kernel_rfl) (by kernel_rfl) (fun _ _ _ h => h) (by rfl) ?_ (by assumption) ?_
              rotate_left
              · intro w hSw
                (try dsimp only at hSw)
                go_simp
                try with_reducible rfl
              try simp only [Act.put, List.setIfInBounds_toArray, List.set_cons_zero, List.set_cons_succ]
              refine held_take (i := 12) (d := 42) (v := ?_) rfl rfl (by kernel_rfl) (by kernel_rfl) (by kernel_rfl) (fun _ _ _ h => h) (by rfl) ?_ (by assumption) ?_
              rotate_left
              · intro w hSw
                (try dsimp only at hSw)
                go_simp
                try with_reducible rfl
              try simp only [Act.put, List.setIfInBounds_toArray, List.set_cons_zero, List.set_cons_succ]
              refine held_take (i := 13) (d := 43) (v := ?_) rfl rfl (by kernel_rfl) (by kernel_rfl) (by kernel_rfl) (fun _ _ _ h => h) (by rfl) ?_ (by assumption) ?_
              rotate_left
              · intro w hSw
                (try dsimp only at hSw)
                go_simp
                try with_reducible rfl
              try simp only [Act.put, List.setIfInBounds_toArray, List.set_cons_zero, List.set_cons_succ]
              refine held_take (i := 14) (d := 44) (v := ?_) rfl rfl (by kernel_rfl) (by kernel_rfl) (by kernel_rfl) (fun _ _ _ h => h) (by rfl) ?_ (by assumption) ?_
              rotate_left
              · intro w hSw
                (try dsimp only at hSw)
                go_simp
                try with_reducible rfl
              try simp only [Act.put, List.setIfInBounds_toArray, List.set_cons_zero, List.set_cons_succ]
              refine held_take (i := 15) (d := 45) (v := ?_) rfl rfl (by kernel_rfl) (by kernel_rfl) (by kernel_rfl) (fun _ _ _ h => h) (by rfl) ?_ (by assumption) ?_
              rotate_left
              · intro w hSw
                (try dsimp only at hSw)
                go_simp
                try with_reducible rfl
              try simp only [Act.put, List.setIfInBounds_toArray, List.set_cons_zero, List.set_cons_succ]
              refine held_take (i := 16) (d := 46) (v := ?_) rfl rfl (by kernel_rfl) (by kernel_rfl) (by kernel_rfl) (fun _ _ _ h => h) (by rfl) ?_ (by assumption) ?_
              rotate_left
              · intro w hSw
                (try dsimp only at hSw)
                go_simp
                try with_reducible rfl
              try simp only [Act.put, List.setIfInBounds_toArray, List.set_cons_zero, List.set_cons_succ]
              refine held_take (i := 17) (d := 47) (v := ?_) rfl rfl (by kernel_rfl) (by kernel_rfl) (by kernel_rfl) (fun _ _ _ h => h) (by rfl) ?_ (by assumption) ?_
              rotate_left
              · intro w hSw
                (try dsimp only at hSw)
                go_simp
                try with_reducible rfl
              try simp only [Act.put, List.setIfInBounds_toArray, List.set_cons_zero, List.set_cons_succ]
              refine held_take (i := 18) (d := 48) (v := ?_) rfl rfl (by kernel_rfl) (by kernel_rfl) (by kernel_rfl) (fun _ _ _ h => h) (by rfl) ?_ (by assumption) ?_
              rotate_left
              · intro w hSw
                (try dsimp only at hSw)
                go_simp
                try with_reducible rfl
              try simp only [Act.put, List.setIfInBounds_toArray, List.set_cons_zero, List.set_cons_succ]
              refine held_take (i := 19) (d := 49) (v := ?_) rfl rfl (by kernel_rfl) (by kernel_rfl) (by kernel_rfl) (fun _ _ _ h => h) (by rfl) ?_ (by assumption) ?_
              rotate_left
              · intro w hSw
                (try dsimp only at hSw)
                go_simp
                try with_reducible rfl
              try simp only [Act.put, List.setIfInBounds_toArray, List.set_cons_zero, List.set_cons_succ]
              refine held_take (i := 20) (d := 50) (v := ?_) rfl rfl (by kernel_rfl) (by kernel_rfl) (by kernel_rfl) (fun _ _ _ h => h) (by rfl) ?_ (by assumption) ?_
              rotate_left
              · intro w hSw
                (try dsimp only at hSw)
                go_simp
                try with_reducible rfl
              try simp only [Act.put, List.setIfInBounds_toArray, List.set_cons_zero, List.set_cons_succ]
              refine held_take (i := 21) (d := 51) (v := ?_) rfl rfl (by kernel_rfl) (by kernel_rfl) (by kernel_rfl) (fun _ _ _ h => h) (by rfl) ?_ (by assumption) ?_
              rotate_left
              · intro w hSw
                (try dsimp only at hSw)
                go_simp
                try with_reducible rfl
              try simp only [Act.put, List.setIfInBounds_toArray, List.set_cons_zero, List.set_cons_succ]
              refine held_take (i := 22) (d := 52) (v := ?_) rfl rfl (by kernel_rfl) (by kernel_rfl) (by kernel_rfl) (fun _ _ _ h => h) (by rfl) ?_ (by assumption) ?_
              rotate_left
              · intro w hSw
                (try dsimp only at hSw)
                go_simp
                try with_reducible rfl
              try simp only [Act.put, List.setIfInBounds_toArray, List.set_cons_zero, List.set_cons_succ]
              refine held_take (i := 23) (d := 53) (v := ?_) rfl rfl (by kernel_rfl) (by kernel_rfl) (by kernel_rfl) (fun _ _ _ h => h) (by rfl) ?_ (by assumption) ?_
              rotate_left
              · intro w hSw
                (try dsimp only at hSw)
                go_simp
                try with_reducible rfl
              try simp only [Act.put, List.setIfInBounds_toArray, List.set_cons_zero, List.set_cons_succ]
              refine held_take (i := 24) (d := 29) (v := ?_) rfl rfl (by kernel_rfl) (by kernel_rfl) (by kernel_rfl) (fun _ _ _ h => h) (by rfl) ?_ (by assumption) ?_
              rotate_left
              · intro w hSw
                (try dsimp only at hSw)
                go_simp
                try with_reducible rfl
              try simp only [Act.put, List.setIfInBounds_toArray, List.set_cons_zero, List.set_cons_succ]
              refine wpAnyH_done (by kernel_rfl) ?_ _
              go_split_ands
              have h29 : BX w2 w9 := by assumption
              have A9 := Lib.hid (HAB.out w9 h29)
              go_wp2_with fail
              go_roundw
              case rel => exact ⟨k + 1, by omega, by go_num, by rw [HZ.out], A9.out, HX⟩
              case measure => simp [intOf]; omega
            · have HX : Hid (false = B) := Lib.hid (by rw [← HP.out, HE.out, HQ.out, hi, hy, decide_eq_false (Int.not_lt.2 hc), beq_eq_false_iff_ne.2 hk0]; rfl)
              have dc : decide (x.i ≤ y.i) = true := is_le hc
              obtain ⟨xi, xp, xr, xe, xb, xu, xo, xl⟩ := x
              simp only at a0 a1 a2 a3 a4 a5 a6 a7 HB5 f0 f1 f2 f3 HIx dz dc
              clear hb ht hx hz HWY HTM HIN HFI hl1 HQ hi hy hc hk0
              go_wp2_with (go_at_call 65; refine (HWk.out _ (Lib.hid (HI.out.below HB5.out.all.2))).mono ?_; rintro e w2 ⟨rfl, b2⟩; have A2 := Lib.hid (HB5.out.on b2); obtain ⟨c0, c1, c2, c3, _⟩ := A2.out.all.1; have X0 := ((bcell b2).1 wr.heap.size 0 (by simp)).trans (show (wr.alloc (Obj.cells #[.int .i64 xi, .int .i64 xp, .int .i64 xr, .int .i64 xe, .int .i64 xb, .int .i64 xu, .int .i64 xo, .int .i64 xl] 62)).cell? ⟨wr.heap.size, 0, none⟩ = some (.int .i64 xi) by simp [go_sem]); have X1 := ((bcell b2).1 wr.heap.size 1 (by simp)).trans (show (wr.alloc (Obj.cells #[.int .i64 xi, .int .i64 xp, .int .i64 xr, .int .i64 xe, .int .i64 xb, .int .i64 xu, .int .i64 xo, .int .i64 xl] 62)).cell? ⟨wr.heap.size, 1, none⟩ = some (.int .i64 xp) by simp [go_sem]); have p0 := ((HG.out.below A2.out.all.2 hg).cls (k - 1) (by rw [hn.out]; omega) _ HY.out).1; have HWR2 : wr.heap.size < w2.heap.size := (Nat.lt_of_lt_of_le (by simp) b2.size); clear b2; refine Hid.out ?_)
              refine Lib.hid ?_
              have hwr2 : wr.heap.size < w2.heap.size := HWR2
              have HAB : Hid (∀ w', BX w2 w' → Aft w (Obj.cells #[.string s, .slice (some ⟨g, 0, none⟩) n cc, .slice af m cf, .int .i64 d] 32) w') := Lib.hid (fun w' h => A2.out.on h)
              have HQ : Hid (∀ w', BX w2 w' → w'.cell? ⟨w.heap.size, 1, none⟩ = some (.slice (some ⟨g, 0, none⟩) n cc) ∧ w'.cell? ⟨wr.heap.size, 0, none⟩ = some (.int .i64 xi) ∧ w'.cell? ⟨g, (k - 1) * 8, none⟩ = some (.int .i64 y.i) ∧ BX w2 w') := Lib.hid (fun w' h => by
                obtain ⟨_, q1, _, _, _⟩ := (HAB.out w' h).all.1
                exact ⟨q1, ((bcell (show Below w2.heap.size w2 w' from h)).1 _ 0 hwr2).trans X0, ((HG.out.below (HAB.out w' h).all.2 hg).cls (k - 1) (by rw [hn.out]; omega) _ HY.out).1, h⟩)
              go_wp2_with fail
              refine wp_region_held_drew (S := fun w' => w'.cell? ⟨w.heap.size, 1, none⟩ = some (.slice (some ⟨g, 0, none⟩) n cc) ∧ w'.cell? ⟨wr.heap.size, 0, none⟩ = some (.int .i64 xi) ∧ w'.cell? ⟨g, (k - 1) * 8, none⟩ = some (.int .i64 y.i) ∧ BX w2 w') (by kernel_rfl) ?_ (fun hHeld => ?_)
              · (try dsimp only)
                (first | (go_split_ands; refine HQ.out _ ?_; repeat' (with_reducible first | exact BX.drew0 _ | exact BX.refl _ | assumption | refine BX.call' (by assumption) ?_ | refine BX.drew ?_)))
              refine held_take (i := 0) (d := 30) (v := ?_) rfl rfl (by kernel_rfl) (by kernel_rfl) (by kernel_rfl) (fun _ _ _ h => h) (by rfl) ?_ (by assumption) ?_
              rotate_left
              · intro w hSw
                (try dsimp only at hSw)
                go_simp
                try with_reducible rfl
              try simp only [Act.put, List.setIfInBounds_toArray, List.set_cons_zero, List.set_cons_succ]
              refine held_take (i := 1) (d := 31) (v := ?_) rfl rfl (by kernel_rfl) (by kernel_rfl) (by kernel_rfl) (fun _ _ _ h => h) (by rfl) ?_ (by assumption) ?_
              rotate_left
              · intro w hSw
                (try dsimp only at hSw)
                go_simp
                try with_reducible rfl
              try simp only [Act.put, List.setIfInBounds_toArray, List.set_cons_zero, List.set_cons_succ]
              refine held_take (i := 2) (d := 32) (v := ?_) rfl rfl (by kernel_rfl) (by kernel_rfl) (by kernel_rfl) (fun _ _ _ h => h) (by rfl) ?_ (by assumption) ?_
              rotate_left
              · intro w hSw
                (try dsimp only at hSw)
                go_simp
                try with_reducible rfl
              try simp only [Act.put, List.setIfInBounds_toArray, List.set_cons_zero, List.set_cons_succ]
              refine held_take (i := 3) (d := 33) (v := ?_) rfl rfl (by kernel_rfl) (by kernel_rfl) (by kernel_rfl) (fun _ _ _ h => h) (by rfl) ?_ (by assumption) ?_
              rotate_left
              · intro w hSw
                (try dsimp only at hSw)
                go_simp
                try with_reducible rfl
              try simp only [Act.put, List.setIfInBounds_toArray, List.set_cons_zero, List.set_cons_succ]
              refine held_take (i := 4) (d := 34) (v := ?_) rfl rfl (by kernel_rfl) (by kernel_rfl) (by kernel_rfl) (fun _ _ _ h => h) (by rfl) ?_ (by assumption) ?_
              rotate_left
              · intro w hSw
                (try dsimp only at hSw)
                go_simp
                try with_reducible rfl
              try simp only [Act.put, List.setIfInBounds_toArray, List.set_cons_zero, List.set_cons_succ]
              refine wpAnyH_ready (rs := [5]) (by kernel_rfl) (by simp) ?_
              refine AllReadyH.cons rfl (fun K' hK => ?_) AllReadyH.nil
              go_simp
              (go_split_ands; (with_reducible refine (HIx.out _).mono ?_); rintro e w9 ⟨rfl, b9⟩)
              refine hK.out _ _ ?_ (fun hHeld => ?_)
              · (try dsimp only)
                (first | (go_split_ands; refine HQ.out _ ?_; repeat' (with_reducible first | exact BX.drew0 _ | exact BX.refl _ | assumption | refine BX.call' (by assumption) ?_ | refine BX.drew ?_)))
              clear hK K'
              try simp only [Act.put, List.setIfInBounds_toArray, List.set_cons_zero, List.set_cons_succ]
              refine held_take (i := 6) (d := 36) (v := ?_) rfl rfl (by kernel_rfl) (by kernel_rfl) (by kernel_rfl) (fun _ _ _ h => h) (by rfl) ?_ (by assumption) ?_
              rotate_left
              · intro w hSw
                (try dsimp only at hSw)
                go_simp
                try with_reducible rfl
              try simp only [Act.put, List.setIfInBounds_toArray, List.set_cons_zero, List.set_cons_succ]
              refine held_take (i := 7) (d := 37) (v := ?_) rfl rfl (by kernel_rfl) (by kernel_rfl) (by kernel_rfl) (fun _ _ _ h => h) (by rfl) ?_ (by assumption) ?_
              rotate_left
              · intro w hSw
                (try dsimp only at hSw)
                go_simp
                try with_reducible rfl
              try simp only [Act.put, List.setIfInBounds_toArray, List.set_cons_zero, List.set_cons_succ]
              refine held_take (i := 8) (d := 38) (v := ?_) rfl rfl (by kernel_rfl) (by kernel_rfl) (by kernel_rfl) (fun _ _ _ h => h) (by rfl) ?_ (by assumption) ?_
              rotate_left
              · intro w hSw
                (try dsimp only at hSw)
                go_simp
                try with_reducible rfl
              try simp only [Act.put, List.setIfInBounds_toArray, List.set_cons_zero, List.set_cons_succ]
              refine held_take (i := 9) (d := 39) (v := ?_) rfl rfl (by kernel_rfl) (by kernel_rfl) (by kernel_rfl) (fun _ _ _ h => h) (by rfl) ?_ (by assumption) ?_
              rotate_left
              · intro w hSw
                (try dsimp only at hSw)
                go_simp
                try with_reducible rfl
              try simp only [Act.put, List.setIfInBounds_toArray, List.set_cons_zero, List.set_cons_succ]
              refine held_take (i := 10) (d := 40) (v := ?_) rfl rfl (by kernel_rfl) (by kernel_rfl) (by kernel_rfl) (fun _ _ _ h => h) (by rfl) ?_ (by assumption) ?_
              rotate_left
              · intro w hSw
                (try dsimp only at hSw)
                go_simp
                try with_reducible rfl
              try simp only [Act.put, List.setIfInBounds_toArray, List.set_cons_zero, List.set_cons_succ]
              refine held_take (i := 11) (d := 41) (v := ?_) rfl rfl (by kernel_rfl) (by kernel_rfl) (by kernel_rfl) (fun _ _ _ h => h) (by rfl) ?_ (by assumption) ?_
              rotate_left
              · intro w hSw
                (try dsimp only at hSw)
                go_simp
                try with_reducible rfl
              try simp only [Act.put, List.setIfInBounds_toArray, List.set_cons_zero, List.set_cons_succ]
              refine held_take (i := 12) (d := 42) (v := ?_) rfl rfl (by kernel_rfl) (by kernel_rfl) (by kernel_rfl) (fun _ _ _ h => h) (by rfl) ?_ (by assumption) ?_
              rotate_left
              · intro w hSw
                (try dsimp only at hSw)
                go_simp
                try with_reducible rfl
              try simp only [Act.put, List.setIfInBounds_toArray, List.set_cons_zero, List.set_cons_succ]
              refine held_take (i := 13) (d := 43) (v := ?_) rfl rfl (by kernel_rfl) (by kernel_rfl) (by kernel_rfl) (fun _ _ _ h => h) (by rfl) ?_ (by assumption) ?_
              rotate_left
              · intro w hSw
                (try dsimp only at hSw)
                go_simp
                try with_reducible rfl
              try simp only [Act.put, List.setIfInBounds_toArray, List.set_cons_zero, List.set_cons_succ]
              refine held_take (i := 14) (d := 44) (v := ?_) rfl rfl (by kernel_rfl) (by kernel_rfl) (by kernel_rfl) (fun _ _ _ h => h) (by rfl) ?_ (by assumption) ?_
              rotate_left
              · intro w hSw
                (try dsimp only at hSw)
                go_simp
                try with_reducible rfl
              try simp only [Act.put, List.setIfInBounds_toArray, List.set_cons_zero, List.set_cons_succ]
              refine held_take (i := 15) (d := 45) (v := ?_) rfl rfl (by kernel_rfl) (by kernel_rfl) (by kernel_rfl) (fun _ _ _ h => h) (by rfl) ?_ (by assumption) ?_
              rotate_left
              · intro w hSw
                (try dsimp only at hSw)
                go_simp
                try with_reducible rfl
              try simp only [Act.put, List.setIfInBounds_toArray, List.set_cons_zero, List.set_cons_succ]
              refine held_take (i := 16) (d := 46) (v := ?_) rfl rfl (by kernel_rfl) (by kernel_rfl) (by kernel_rfl) (fun _ _ _ h => h) (by rfl) ?_ (by assumption) ?_
              rotate_left
              · intro w hSw
                (try dsimp only at hSw)
                go_simp
                try with_reducible rfl
              try simp only [Act.put, List.setIfInBounds_toArray, List.set_cons_zero, List.set_cons_succ]
              refine held_take (i := 17) (d := 47) (v := ?_) rfl rfl (by kernel_rfl) (by kernel_rfl) (by kernel_rfl) (fun _ _ _ h => h) (by rfl) ?_ (by assumption) ?_
              rotate_left
              · intro w hSw
                (try dsimp only at hSw)
                go_simp
                try with_reducible rfl
              try simp only [Act.put, List.setIfInBounds_toArray, List.set_cons_zero, List.set_cons_succ]
              refine held_take (i := 18) (d := 48) (v := ?_) rfl rfl (by kernel_rfl) (by kernel_rfl) (by kernel_rfl) (fun _ _ _ h => h) (by rfl) ?_ (by assumption) ?_
              rotate_left
              · intro w hSw
                (try dsimp only at hSw)
                go_simp
                try with_reducible rfl
              try simp only [Act.put, List.setIfInBounds_toArray, List.set_cons_zero, List.set_cons_succ]
              refine held_take (i := 19) (d := 49) (v := ?_) rfl rfl (by kernel_rfl) (by kernel_rfl) (by kernel_rfl) (fun _ _ _ h => h) (by rfl) ?_ (by assumption) ?_
              rotate_left
              · intro w hSw
                (try dsimp only at hSw)
                go_simp
                try with_reducible rfl
              try simp only [Act.put, List.setIfInBounds_toArray, List.set_cons_zero, List.set_cons_succ]
              refine held_take (i := 20) (d := 50) (v := ?_) rfl rfl (by kernel_rfl) (by kernel_rfl) (by kernel_rfl) (fun _ _ _ h => h) (by rfl) ?_ (by assumption) ?_
              rotate_left
              · intro w hSw
                (try dsimp only at hSw)
                go_simp
                try with_reducible rfl
              try simp only [Act.put, List.setIfInBounds_toArray, List.set_cons_zero, List.set_cons_succ]
              refine held_take (i := 21) (d := 51) (v := ?_) rfl rfl (by kernel_rfl) (by kernel_rfl) (by kernel_rfl) (fun _ _ _ h => h) (by rfl) ?_ (by assumption) ?_
              rotate_left
              · intro w hSw
                (try dsimp only at hSw)
                go_simp
                try with_reducible rfl
              try simp only [Act.put, List.setIfInBounds_toArray, List.set_cons_zero, List.set_cons_succ]
              refine held_take (i := 22) (d := 52) (v := ?_) rfl rfl (by kernel_rfl) (by kernel_rfl) (by kernel_rfl) (fun _ _ _ h => h) (by rfl) ?_ (by assumption) ?_
              rotate_left
              · intro w hSw
                (try dsimp only at hSw)
                go_simp
                try with_reducible rfl
              try simp only [Act.put, List.setIfInBounds_toArray, List.set_cons_zero, List.set_cons_succ]
              refine held_take (i := 23) (d := 53) (v := ?_) rfl rfl (by kernel_rfl) (by kernel_rfl) (by kernel_rfl) (fun _ _ _ h => h) (by rfl) ?_ (by assumption) ?_
              rotate_left
              · intro w hSw
                (try dsimp only at hSw)
                go_simp
                try with_reducible rfl
              try simp only [Act.put, List.setIfInBounds_toArray, List.set_cons_zero, List.set_cons_succ]
              refine held_take (i := 24) (d := 29) (v := ?_) rfl rfl (by kernel_rfl) (by kernel_rfl) (by kernel_rfl) (fun _ _ _ h => h) (by rfl) ?_ (by assumption) ?_
              rotate_left
              · intro w hSw
                (try dsimp only at hSw)
                go_simp
                try with_reducible rfl
              try simp only [Act.put, List.setIfInBounds_toArray, List.set_cons_zero, List.set_cons_succ]
              refine wpAnyH_done (by kernel_rfl) ?_ _
              go_split_ands
              have h29 : BX w2 w9 := by assumption
              have A9 := Lib.hid (HAB.out w9 h29)
              go_wp2_with fail
              go_ret
              exact ⟨ret_bool (by rw [← HX.out]; rfl), A9.out.all.2⟩
        · have HX : Hid (false = B) := Lib.hid (by rw [← HP.out, HE.out, HQ.out, hi, Bool.false_and, Bool.false_and])
          rw [hi] at HIx
          obtain ⟨xi, xp, xr, xe, xb, xu, xo, xl⟩ := x
          simp only at a0 a1 a2 a3 a4 a5 a6 a7 HB5 f0 f1 f2 f3 HIx dz
          clear hb ht hx hz HWY HTM HIN HFI hl1 HQ hi
          go_wp2_with (go_at_call 65; refine (HWk.out _ (Lib.hid (HI.out.below HB5.out.all.2))).mono ?_; rintro e w2 ⟨rfl, b2⟩; have A2 := Lib.hid (HB5.out.on b2); obtain ⟨c0, c1, c2, c3, _⟩ := A2.out.all.1; have X0 := ((bcell b2).1 wr.heap.size 0 (by simp)).trans (show (wr.alloc (Obj.cells #[.int .i64 xi, .int .i64 xp, .int .i64 xr, .int .i64 xe, .int .i64 xb, .int .i64 xu, .int .i64 xo, .int .i64 xl] 62)).cell? ⟨wr.heap.size, 0, none⟩ = some (.int .i64 xi) by simp [go_sem]); have X1 := ((bcell b2).1 wr.heap.size 1 (by simp)).trans (show (wr.alloc (Obj.cells #[.int .i64 xi, .int .i64 xp, .int .i64 xr, .int .i64 xe, .int .i64 xb, .int .i64 xu, .int .i64 xo, .int .i64 xl] 62)).cell? ⟨wr.heap.size, 1, none⟩ = some (.int .i64 xp) by simp [go_sem]);  have HWR2 : wr.heap.size < w2.heap.size := (Nat.lt_of_lt_of_le (by simp) b2.size); clear b2; refine Hid.out ?_)
          refine Lib.hid ?_
          have hwr2 : wr.heap.size < w2.heap.size := HWR2
          have HAB : Hid (∀ w', BX w2 w' → Aft w (Obj.cells #[.string s, .slice (some ⟨g, 0, none⟩) n cc, .slice af m cf, .int .i64 d] 32) w') := Lib.hid (fun w' h => A2.out.on h)
          have HQ : Hid (∀ w', BX w2 w' → w'.cell? ⟨w.heap.size, 1, none⟩ = some (.slice (some ⟨g, 0, none⟩) n cc) ∧ w'.cell? ⟨wr.heap.size, 0, none⟩ = some (.int .i64 xi) ∧ BX w2 w') := Lib.hid (fun w' h => by
            obtain ⟨_, q1, _, _, _⟩ := (HAB.out w' h).all.1
            exact ⟨q1, ((bcell (show Below w2.heap.size w2 w' from h)).1 _ 0 hwr2).trans X0, h⟩)
          go_wp2_with fail
          refine wp_region_held_drew (S := fun w' => w'.cell? ⟨w.heap.size, 1, none⟩ = some (.slice (some ⟨g, 0, none⟩) n cc) ∧ w'.cell? ⟨wr.heap.size, 0, none⟩ = some (.int .i64 xi) ∧ BX w2 w') (by kernel_rfl) ?_ (fun hHeld => ?_)
          · (try dsimp only)
            (first | (go_split_ands; refine HQ.out _ ?_; repeat' (with_reducible first | exact BX.drew0 _ | exact BX.refl _ | assumption | refine BX.call' (by assumption) ?_ | refine BX.drew ?_)))
          refine held_take (i := 0) (d := 30) (v := ?_) rfl rfl (by kernel_rfl) (by kernel_rfl) (by kernel_rfl) (fun _ _ _ h => h) (by rfl) ?_ (by assumption) ?_
          rotate_left
          · intro w hSw
            (try dsimp only at hSw)
            go_simp
            try with_reducible rfl
          try simp only [Act.put, List.setIfInBounds_toArray, List.set_cons_zero, List.set_cons_succ]
          refine held_take (i := 1) (d := 31) (v := ?_) rfl rfl (by kernel_rfl) (by kernel_rfl) (by kernel_rfl) (fun _ _ _ h => h) (by rfl) ?_ (by assumption) ?_
          rotate_left
          · intro w hSw
            (try dsimp only at hSw)
            go_simp
            try with_reducible rfl
          try simp only [Act.put, List.setIfInBounds_toArray, List.set_cons_zero, List.set_cons_succ]
          refine held_take (i := 2) (d := 32) (v := ?_) rfl rfl (by kernel_rfl) (by kernel_rfl) (by kernel_rfl) (fun _ _ _ h => h) (by rfl) ?_ (by assumption) ?_
          rotate_left
          · intro w hSw
            (try dsimp only at hSw)
            go_simp
            try with_reducible rfl
          try simp only [Act.put, List.setIfInBounds_toArray, List.set_cons_zero, List.set_cons_succ]
          refine held_take (i := 3) (d := 33) (v := ?_) rfl rfl (by kernel_rfl) (by kernel_rfl) (by kernel_rfl) (fun _ _ _ h => h) (by rfl) ?_ (by assumption) ?_
          rotate_left
          · intro w hSw
            (try dsimp only at hSw)
            go_simp
            try with_reducible rfl
          try simp only [Act.put, List.setIfInBounds_toArray, List.set_cons_zero, List.set_cons_succ]
          refine held_take (i := 4) (d := 34) (v := ?_) rfl rfl (by kernel_rfl) (by kernel_rfl) (by kernel_rfl) (fun _ _ _ h => h) (by rfl) ?_ (by assumption) ?_
          rotate_left
          · intro w hSw
            (try dsimp only at hSw)
            go_simp
            try with_reducible rfl
          try simp only [Act.put, List.setIfInBounds_toArray, List.set_cons_zero, List.set_cons_succ]
          refine wpAnyH_ready (rs := [5]) (by kernel_rfl) (by simp) ?_
          refine AllReadyH.cons rfl (fun K' hK => ?_) AllReadyH.nil
          go_simp
          (go_split_ands; (with_reducible refine (HIx.out _).mono ?_); rintro e w9 ⟨rfl, b9⟩)
          refine hK.out _ _ ?_ (fun hHeld => ?_)
          · (try dsimp only)
            (first | (go_split_ands; refine HQ.out _ ?_; repeat' (with_reducible first | exact BX.drew0 _ | exact BX.refl _ | assumption | refine BX.call' (by assumption) ?_ | refine BX.drew ?_)))
          clear hK K'
          try simp only [Act.put, List.setIfInBounds_toArray, List.set_cons_zero, List.set_cons_succ]
          refine held_take (i := 6) (d := 36) (v := ?_) rfl rfl (by kernel_rfl) (by kernel_rfl) (by kernel_rfl) (fun _ _ _ h => h) (by rfl) ?_ (by assumption) ?_
          rotate_left
          · intro w hSw
            (try dsimp only at hSw)
            go_simp
            try with_reducible rfl
          try simp only [Act.put, List.setIfInBounds_toArray, List.set_cons_zero, List.set_cons_succ]
          refine held_take (i := 7) (d := 37) (v := ?_) rfl rfl (by kernel_rfl) (by kernel_rfl) (by kernel_rfl) (fun _ _ _ h => h) (by rfl) ?_ (by assumption) ?_
          rotate_left
          · intro w hSw
            (try dsimp only at hSw)
            go_simp
            try with_reducible rfl
          try simp only [Act.put, List.setIfInBounds_toArray, List.set_cons_zero, List.set_cons_succ]
          refine held_skip (i := 8) (d := 38) rfl rfl (by kernel_rfl) (by kernel_rfl) (by kernel_rfl) (fun _ _ _ h => h) (by rfl) (by assumption) ?_
          try simp only [Act.put, List.setIfInBounds_toArray, List.set_cons_zero, List.set_cons_succ]
          refine held_skip (i := 9) (d := 39) rfl rfl (by kernel_rfl) (by kernel_rfl) (by kernel_rfl) (fun _ _ _ h => h) (by rfl) (by assumption) ?_
          try simp only [Act.put, List.setIfInBounds_toArray, List.set_cons_zero, List.set_cons_succ]
          refine held_skip (i := 10) (d := 40) rfl rfl (by kernel_rfl) (by kernel_rfl) (by kernel_rfl) (fun _ _ _ h => h) (by rfl) (by assumption) ?_
          try simp only [Act.put, List.setIfInBounds_toArray, List.set_cons_zero, List.set_cons_succ]
          refine held_skip (i := 11) (d := 41) rfl rfl (by kernel_rfl) (by kernel_rfl) (by kernel_rfl) (fun _ _ _ h => h) (by rfl) (by assumption) ?_
          try simp only [Act.put, List.setIfInBounds_toArray, List.set_cons_zero, List.set_cons_succ]
          refine held_skip (i := 12) (d := 42) rfl rfl (by kernel_rfl) (by kernel_rfl) (by kernel_rfl) (fun _ _ _ h => h) (by rfl) (by assumption) ?_
          try simp only [Act.put, List.setIfInBounds_toArray, List.set_cons_zero, List.set_cons_succ]
          refine held_skip (i := 13) (d := 43) rfl rfl (by kernel_rfl) (by kernel_rfl) (by kernel_rfl) (fun _ _ _ h => h) (by rfl) (by assumption) ?_
          try simp only [Act.put, List.setIfInBounds_toArray, List.set_cons_zero, List.set_cons_succ]
          refine held_skip (i := 14) (d := 44) rfl rfl (by kernel_rfl) (by kernel_rfl) (by kernel_rfl) (fun _ _ _ h => h) (by rfl) (by assumption) ?_
          try simp only [Act.put, List.setIfInBounds_toArray, List.set_cons_zero, List.set_cons_succ]
          refine held_skip (i := 15) (d := 45) rfl rfl (by kernel_rfl) (by kernel_rfl) (by kernel_rfl) (fun _ _ _ h => h) (by rfl) (by assumption) ?_
          try simp only [Act.put, List.setIfInBounds_toArray, List.set_cons_zero, List.set_cons_succ]
          refine held_skip (i := 16) (d := 46) rfl rfl (by kernel_rfl) (by kernel_rfl) (by kernel_rfl) (fun _ _ _ h => h) (by rfl) (by assumption) ?_
          try simp only [Act.put, List.setIfInBounds_toArray, List.set_cons_zero, List.set_cons_succ]
          refine held_skip (i := 17) (d := 47) rfl rfl (by kernel_rfl) (by kernel_rfl) (by kernel_rfl) (fun _ _ _ h => h) (by rfl) (by assumption) ?_
          try simp only [Act.put, List.setIfInBounds_toArray, List.set_cons_zero, List.set_cons_succ]
          refine held_skip (i := 18) (d := 48) rfl rfl (by kernel_rfl) (by kernel_rfl) (by kernel_rfl) (fun _ _ _ h => h) (by rfl) (by assumption) ?_
          try simp only [Act.put, List.setIfInBounds_toArray, List.set_cons_zero, List.set_cons_succ]
          refine held_skip (i := 19) (d := 49) rfl rfl (by kernel_rfl) (by kernel_rfl) (by kernel_rfl) (fun _ _ _ h => h) (by rfl) (by assumption) ?_
          try simp only [Act.put, List.setIfInBounds_toArray, List.set_cons_zero, List.set_cons_succ]
          refine held_skip (i := 20) (d := 50) rfl rfl (by kernel_rfl) (by kernel_rfl) (by kernel_rfl) (fun _ _ _ h => h) (by rfl) (by assumption) ?_
          try simp only [Act.put, List.setIfInBounds_toArray, List.set_cons_zero, List.set_cons_succ]
          refine held_skip (i := 21) (d := 51) rfl rfl (by kernel_rfl) (by kernel_rfl) (by kernel_rfl) (fun _ _ _ h => h) (by rfl) (by assumption) ?_
          try simp only [Act.put, List.setIfInBounds_toArray, List.set_cons_zero, List.set_cons_succ]
          refine held_take (i := 22) (d := 52) (v := ?_) rfl rfl (by kernel_rfl) (by kernel_rfl) (by kernel_rfl) (fun _ _ _ h => h) (by rfl) ?_ (by assumption) ?_
          rotate_left
          · intro w hSw
            (try dsimp only at hSw)
            go_simp
            try with_reducible rfl
          try simp only [Act.put, List.setIfInBounds_toArray, List.set_cons_zero, List.set_cons_succ]
          refine held_take (i := 23) (d := 53) (v := ?_) rfl rfl (by kernel_rfl) (by kernel_rfl) (by kernel_rfl) (fun _ _ _ h => h) (by rfl) ?_ (by assumption) ?_
          rotate_left
          · intro w hSw
            (try dsimp only at hSw)
            go_simp
            try with_reducible rfl
          try simp only [Act.put, List.setIfInBounds_toArray, List.set_cons_zero, List.set_cons_succ]
          refine held_take (i := 24) (d := 29) (v := ?_) rfl rfl (by kernel_rfl) (by kernel_rfl) (by kernel_rfl) (fun _ _ _ h => h) (by rfl) ?_ (by assumption) ?_
          rotate_left
          · intro w hSw
            (try dsimp only at hSw)
            go_simp
            try with_reducible rfl
          try simp only [Act.put, List.setIfInBounds_toArray, List.set_cons_zero, List.set_cons_succ]
          refine wpAnyH_done (by kernel_rfl) ?_ _
          go_split_ands
          have h29 : BX w2 w9 := by assumption
          have A9 := Lib.hid (HAB.out w9 h29)
          go_wp2_with fail
          go_ret
          exact ⟨ret_bool (by rw [← HX.out]; rfl), A9.out.all.2⟩
    · have hkn : k = n := by omega
      subst hkn
      have HX : Hid (B = true) := Lib.hid (by rw [← HP.out, fromK_end _ _ k (Nat.le_refl _)])
      have HTC := Lib.hid hcT
      generalize cT (cs.take k) = z at *
      have HZC : Hid (z = cT cs) := Lib.hid HTC.out
      clear hb hcT
      obtain ⟨e0, e1, e2, e3, hgw⟩ := HB.out.all.1
      go_wp2_with (go_at_call 19; refine (HFN.out _).mono ?_; rintro e w9 ⟨rfl, rfl⟩)
      go_ret
      exact ⟨ret_bool (by rw [HX.out]; rfl), HB.out.all.2⟩
set_option maxRecDepth 100000 in
set_option maxHeartbeats 12800000 in
theorem vaTree3_any (s : ByteArray) (ac af : Option Addr) (n cc m cf : Nat) (d : Int) (cs : List Cls) (w : World) (HI : Hid (InX w ac n (clsCs cs))) (hn : Hid (cs.length = n)) (h40 : n ≤ 40) :
    Calls Tryd.prog 30 #[(.agg #[.string s, .slice ac n cc, .slice af m cf, .int .i64 d]), .int .i64 3] w (SaysB w (fromK (Q3 cs) n 0 && ((cT cs : Int) == 1))) := by
  have q1 : n ≤ 1048576 := by omega
  obtain ⟨B, hB⟩ : ∃ B, fromK (Q3 cs) n 0 = B := ⟨_, rfl⟩
  have H0 := Lib.hid hB
  have HWY := Lib.hid (fun k (hk : k < n) w' HI => vaWay_any s ac af n cc m cf d cs k w' HI hn q1 hk)
  have HFI := Lib.hid (fun id w HI => cfFind_any s ac af n cc m cf d cs id w HI hn q1)
  have HIN := Lib.hid (fun a lo hi w => l1In_any a lo hi w)
  have hcT : cT (cs.take n) = cT cs := by rw [List.take_of_length_le (by rw [hn.out]; exact Nat.le_refl _)]
  rw [hB]
  obtain ⟨t1, ht1⟩ : ∃ t1, ((cT cs : Int) == 1) = t1 := ⟨_, rfl⟩
  have HT1 := Lib.hid ht1
  rw [ht1]
  clear ht1
  clear hB
  go_enter Tryd.func30, Tryd.ntmps30
  go_wp2_with fail
  go_loopw [5, 13] (fun t i wr => TvRel w (Obj.cells #[.string s, .slice ac n cc, .slice af m cf, .int .i64 d] 32) n cs (Q3 cs) B t i wr) (fun _ i _ => n - (intOf i).toNat)
  case atStart => exact ⟨0, Nat.zero_le _, rfl, by simp [cT], Aft.refl _ _, H0⟩
  case round =>
    obtain ⟨k, hk, rfl, rfl, hb, HP⟩ := hrel
    have HB := Lib.hid hb
    have hz40 := cT_take cs k
    by_cases hlt : k < n
    · have hl1 : k < cs.length := by rw [hn.out]; exact hlt
      have HGI := HI.out
      obtain ⟨g, rfl, ht, hg⟩ := HGI (by omega)
      obtain ⟨x, hx⟩ : ∃ x, cs.getD k cls0 = x := ⟨_, rfl⟩
      obtain ⟨a0, a1, a2, a3, a4, a5, a6, a7⟩ := (ht.below hb.all.2 hg).cls k hl1 x hx
      obtain ⟨e0, e1, e2, e3, hgw⟩ := hb.all.1
      have HG := Lib.hid ht
      have HX0 := Lib.hid hx
      have HE := Lib.hid (fromK_at (Q3 cs) n k hlt)
      have HTM := Lib.hid (cT_more cs k hl1 x hx)
      have HB5 := Lib.hid (HB.out.alloc (Obj.cells #[.int .i64 x.i, .int .i64 x.p, .int .i64 x.r, .int .i64 x.e, .int .i64 x.b, .int .i64 x.u, .int .i64 x.o, .int .i64 x.l] 62))
      obtain ⟨f0, f1, f2, f3, _⟩ := HB5.out.all.1
      have HWk := Lib.hid (fun w' HI => HWY.out k hlt w' HI)
      clear hcT
      generalize cT (cs.take k) = z at *
      by_cases hz : x.p = 0
      · have HZ : Hid (cT (cs.take (k + 1)) = z + 1) := Lib.hid (by rw [HTM.out, if_pos hz])
        have dz : (x.p == 0) = true := by simpa using hz
        have HX : Hid (fromK (Q3 cs) n (k + 1) = B) := Lib.hid (by rw [← HP.out, HE.out]; unfold Q3 parOk; rw [hx, dz]; rfl)
        have dn : (x.p != 0) = false := by simpa using hz
        obtain ⟨xi, xp, xr, xe, xb, xu, xo, xl⟩ := x
        simp only at a0 a1 a2 a3 a4 a5 a6 a7 HB5 f0 f1 f2 f3 dz dn
        clear hb ht hx hz HWY HTM HIN HFI hl1
        go_wp2_with (go_at_call 65; refine (HWk.out _ (Lib.hid (HI.out.below HB5.out.all.2))).mono ?_; rintro e w2 ⟨rfl, b2⟩; have A2 := Lib.hid (HB5.out.on b2); obtain ⟨c0, c1, c2, c3, _⟩ := A2.out.all.1; have X0 := ((bcell b2).1 wr.heap.size 0 (by simp)).trans (show (wr.alloc (Obj.cells #[.int .i64 xi, .int .i64 xp, .int .i64 xr, .int .i64 xe, .int .i64 xb, .int .i64 xu, .int .i64 xo, .int .i64 xl] 62)).cell? ⟨wr.heap.size, 0, none⟩ = some (.int .i64 xi) by simp [go_sem]); have X1 := ((bcell b2).1 wr.heap.size 1 (by simp)).trans (show (wr.alloc (Obj.cells #[.int .i64 xi, .int .i64 xp, .int .i64 xr, .int .i64 xe, .int .i64 xb, .int .i64 xu, .int .i64 xo, .int .i64 xl] 62)).cell? ⟨wr.heap.size, 1, none⟩ = some (.int .i64 xp) by simp [go_sem]);  clear b2; refine Hid.out ?_)
        refine Lib.hid ?_
        go_wp2_with fail
        go_quiet (fail)
        go_wp2_with fail
        go_roundw
        case rel => exact ⟨k + 1, by omega, by go_num, by rw [HZ.out] <;> go_num, A2.out.on (below_drewN (Below.refl _ _) _), HX⟩
        case measure => simp [intOf]; omega
      · have HZ : Hid (cT (cs.take (k + 1)) = z) := Lib.hid (by rw [HTM.out, if_neg hz]; rfl)
        have dz : (x.p == 0) = false := by simpa using hz
        have dn : (x.p != 0) = true := by simpa using hz
        have HFx := Lib.hid (fun w' HI => HFI.out x.p w' HI)
        cases hf : fnd cs x.p with
        | none =>
          have HX : Hid (false = B) := Lib.hid (by rw [← HP.out, HE.out]; unfold Q3 parOk; rw [hx, dz, hf]; rfl)
          rw [fndI_none hf] at HFx
          obtain ⟨xi, xp, xr, xe, xb, xu, xo, xl⟩ := x
          simp only at a0 a1 a2 a3 a4 a5 a6 a7 HB5 f0 f1 f2 f3 dz dn HFx
          clear hb ht hx hz HWY HTM HIN HFI hl1 hf
          go_wp2_with (go_at_call 65; refine (HWk.out _ (Lib.hid (HI.out.below HB5.out.all.2))).mono ?_; rintro e w2 ⟨rfl, b2⟩; have A2 := Lib.hid (HB5.out.on b2); obtain ⟨c0, c1, c2, c3, _⟩ := A2.out.all.1; have X0 := ((bcell b2).1 wr.heap.size 0 (by simp)).trans (show (wr.alloc (Obj.cells #[.int .i64 xi, .int .i64 xp, .int .i64 xr, .int .i64 xe, .int .i64 xb, .int .i64 xu, .int .i64 xo, .int .i64 xl] 62)).cell? ⟨wr.heap.size, 0, none⟩ = some (.int .i64 xi) by simp [go_sem]); have X1 := ((bcell b2).1 wr.heap.size 1 (by simp)).trans (show (wr.alloc (Obj.cells #[.int .i64 xi, .int .i64 xp, .int .i64 xr, .int .i64 xe, .int .i64 xb, .int .i64 xu, .int .i64 xo, .int .i64 xl] 62)).cell? ⟨wr.heap.size, 1, none⟩ = some (.int .i64 xp) by simp [go_sem]);  clear b2; refine Hid.out ?_)
          refine Lib.hid ?_
          go_wp2_with fail
          go_quiet (fail)
          go_wp2_with (go_at_call 66; refine (HFx.out _ (Lib.hid (HI.out.below (A2.out.on (below_drewN (Below.refl _ _) _)).all.2))).mono ?_; rintro e w4 ⟨rfl, b4⟩; have A4 := Lib.hid ((A2.out.on (below_drewN (Below.refl _ _) _)).on b4); clear b4)
          go_ret
          exact ⟨ret_bool (by rw [← HX.out]; rfl), A4.out.all.2⟩
        | some j =>
          have HX : Hid (fromK (Q3 cs) n (k + 1) = B) := Lib.hid (by rw [← HP.out, HE.out]; unfold Q3 parOk; rw [hx, dz, hf]; rfl)
          rw [fndI_some hf] at HFx
          have dj := not_lt (show (0 : Int) ≤ (j : Int) by omega)
          obtain ⟨xi, xp, xr, xe, xb, xu, xo, xl⟩ := x
          simp only at a0 a1 a2 a3 a4 a5 a6 a7 HB5 f0 f1 f2 f3 dz dn HFx
          clear hb ht hx hz HWY HTM HIN HFI hl1 hf
          go_wp2_with (go_at_call 65; refine (HWk.out _ (Lib.hid (HI.out.below HB5.out.all.2))).mono ?_; rintro e w2 ⟨rfl, b2⟩; have A2 := Lib.hid (HB5.out.on b2); obtain ⟨c0, c1, c2, c3, _⟩ := A2.out.all.1; have X0 := ((bcell b2).1 wr.heap.size 0 (by simp)).trans (show (wr.alloc (Obj.cells #[.int .i64 xi, .int .i64 xp, .int .i64 xr, .int .i64 xe, .int .i64 xb, .int .i64 xu, .int .i64 xo, .int .i64 xl] 62)).cell? ⟨wr.heap.size, 0, none⟩ = some (.int .i64 xi) by simp [go_sem]); have X1 := ((bcell b2).1 wr.heap.size 1 (by simp)).trans (show (wr.alloc (Obj.cells #[.int .i64 xi, .int .i64 xp, .int .i64 xr, .int .i64 xe, .int .i64 xb, .int .i64 xu, .int .i64 xo, .int .i64 xl] 62)).cell? ⟨wr.heap.size, 1, none⟩ = some (.int .i64 xp) by simp [go_sem]);  clear b2; refine Hid.out ?_)
          refine Lib.hid ?_
          go_wp2_with fail
          go_quiet (fail)
          go_wp2_with (go_at_call 66; refine (HFx.out _ (Lib.hid (HI.out.below (A2.out.on (below_drewN (Below.refl _ _) _)).all.2))).mono ?_; rintro e w4 ⟨rfl, b4⟩; have A4 := Lib.hid ((A2.out.on (below_drewN (Below.refl _ _) _)).on b4); clear b4)
          go_wp2_with fail
          go_roundw
          case rel => exact ⟨k + 1, by omega, by go_num, by rw [HZ.out], A4.out, HX⟩
          case measure => simp [intOf]; omega
    · have hkn : k = n := by omega
      subst hkn
      have HX : Hid (B = true) := Lib.hid (by rw [← HP.out, fromK_end _ _ k (Nat.le_refl _)])
      have HTC := Lib.hid hcT
      generalize cT (cs.take k) = z at *
      have HZC : Hid (z = cT cs) := Lib.hid HTC.out
      clear hb hcT
      have hz1 : ((z : Int) == 1) = t1 := by rw [HZC.out]; exact HT1.out
      go_wp2_with fail
      go_ret
      exact ⟨ret_bool (by rw [HX.out]; rfl), HB.out.all.2⟩
set_option maxRecDepth 100000 in
set_option maxHeartbeats 12800000 in
theorem vaTree4_any (s : ByteArray) (ac af : Option Addr) (n cc m cf : Nat) (d : Int) (cs : List Cls) (w : World) (HI : Hid (InX w ac n (clsCs cs))) (hn : Hid (cs.length = n)) (h40 : n ≤ 40) :
    Calls Tryd.prog 30 #[(.agg #[.string s, .slice ac n cc, .slice af m cf, .int .i64 d]), .int .i64 4] w (SaysB w (fromK (Q4 cs) n 0)) := by
  have q1 : n ≤ 1048576 := by omega
  obtain ⟨B, hB⟩ : ∃ B, fromK (Q4 cs) n 0 = B := ⟨_, rfl⟩
  have H0 := Lib.hid hB
  have HWY := Lib.hid (fun k (hk : k < n) w' HI => vaWay_any s ac af n cc m cf d cs k w' HI hn q1 hk)
  have HFI := Lib.hid (fun id w HI => cfFind_any s ac af n cc m cf d cs id w HI hn q1)
  have HIN := Lib.hid (fun a lo hi w => l1In_any a lo hi w)
  have hcT : cT (cs.take n) = cT cs := by rw [List.take_of_length_le (by rw [hn.out]; exact Nat.le_refl _)]
  rw [hB]
  clear hB
  go_enter Tryd.func30, Tryd.ntmps30
  go_wp2_with fail
  go_loopw [5, 13] (fun t i wr => TvRel w (Obj.cells #[.string s, .slice ac n cc, .slice af m cf, .int .i64 d] 32) n cs (Q4 cs) B t i wr) (fun _ i _ => n - (intOf i).toNat)
  case atStart => exact ⟨0, Nat.zero_le _, rfl, by simp [cT], Aft.refl _ _, H0⟩
  case round =>
    obtain ⟨k, hk, rfl, rfl, hb, HP⟩ := hrel
    have HB := Lib.hid hb
    have hz40 := cT_take cs k
    by_cases hlt : k < n
    · have hl1 : k < cs.length := by rw [hn.out]; exact hlt
      have HGI := HI.out
      obtain ⟨g, rfl, ht, hg⟩ := HGI (by omega)
      obtain ⟨x, hx⟩ : ∃ x, cs.getD k cls0 = x := ⟨_, rfl⟩
      obtain ⟨a0, a1, a2, a3, a4, a5, a6, a7⟩ := (ht.below hb.all.2 hg).cls k hl1 x hx
      obtain ⟨e0, e1, e2, e3, hgw⟩ := hb.all.1
      have HG := Lib.hid ht
      have HX0 := Lib.hid hx
      have HE := Lib.hid (fromK_at (Q4 cs) n k hlt)
      have HTM := Lib.hid (cT_more cs k hl1 x hx)
      have HB5 := Lib.hid (HB.out.alloc (Obj.cells #[.int .i64 x.i, .int .i64 x.p, .int .i64 x.r, .int .i64 x.e, .int .i64 x.b, .int .i64 x.u, .int .i64 x.o, .int .i64 x.l] 62))
      obtain ⟨f0, f1, f2, f3, _⟩ := HB5.out.all.1
      have HWk := Lib.hid (fun w' HI => HWY.out k hlt w' HI)
      clear hcT
      generalize cT (cs.take k) = z at *
      by_cases hz : x.p = 0
      · have HZ : Hid (cT (cs.take (k + 1)) = z + 1) := Lib.hid (by rw [HTM.out, if_pos hz])
        have dz : (x.p == 0) = true := by simpa using hz
        have HQ : Hid (Q4 cs k = (inB (vwN cs n 1 k) 1 8 && ((cs.getD (vwL cs n k) cls0).p == 0))) := Lib.hid (by unfold Q4; rw [hn.out])
        have hvl : vwL cs n k < cs.length := vwL_lt cs n k hl1
        have HIx := Lib.hid (fun w' => HIN.out (vwN cs n 1 k) 1 8 w')
        rcases Bool.eq_false_or_eq_true (inB (vwN cs n 1 k) 1 8) with hi | hi
        · obtain ⟨y, hy⟩ : ∃ y, cs.getD (vwL cs n k) cls0 = y := ⟨_, rfl⟩
          have HY := Lib.hid hy
          rw [hi] at HIx
          rw [hi, hy] at HQ
          generalize vwN cs n 1 k = vn at *
          generalize vwL cs n k = vl at *
          have hvn : vl < n := by rw [← hn.out]; exact hvl
          by_cases hc : y.p = 0
          · have HX : Hid (fromK (Q4 cs) n (k + 1) = B) := Lib.hid (by rw [← HP.out, HE.out, HQ.out, hc]; rfl)
            have dc : (y.p != 0) = false := by simpa using hc
            obtain ⟨xi, xp, xr, xe, xb, xu, xo, xl⟩ := x
            simp only at a0 a1 a2 a3 a4 a5 a6 a7 HB5 f0 f1 f2 f3 dz
            clear hb ht hx hz HWY HTM HIN HFI hl1 hi hy hc
            go_wp2_with (go_at_call 65; refine (HWk.out _ (Lib.hid (HI.out.below HB5.out.all.2))).mono ?_; rintro e w2 ⟨rfl, b2⟩; have A2 := Lib.hid (HB5.out.on b2); obtain ⟨c0, c1, c2, c3, _⟩ := A2.out.all.1; have X0 := ((bcell b2).1 wr.heap.size 0 (by simp)).trans (show (wr.alloc (Obj.cells #[.int .i64 xi, .int .i64 xp, .int .i64 xr, .int .i64 xe, .int .i64 xb, .int .i64 xu, .int .i64 xo, .int .i64 xl] 62)).cell? ⟨wr.heap.size, 0, none⟩ = some (.int .i64 xi) by simp [go_sem]); have X1 := ((bcell b2).1 wr.heap.size 1 (by simp)).trans (show (wr.alloc (Obj.cells #[.int .i64 xi, .int .i64 xp, .int .i64 xr, .int .i64 xe, .int .i64 xb, .int .i64 xu, .int .i64 xo, .int .i64 xl] 62)).cell? ⟨wr.heap.size, 1, none⟩ = some (.int .i64 xp) by simp [go_sem]); have p1 := ((HG.out.below A2.out.all.2 hg).cls vl hvl _ HY.out).2.1; clear b2; refine Hid.out ?_)
            refine Lib.hid ?_
            go_wp2_with fail
            go_quiet (fail)
            go_wp2_with (go_at_call 19; refine (HIx.out _).mono ?_; rintro e w9 ⟨rfl, rfl⟩)
            go_wp2_with fail
            go_roundw
            case rel => exact ⟨k + 1, by omega, by go_num, by rw [HZ.out] <;> go_num, A2.out.on (below_drewN (Below.refl _ _) _), HX⟩
            case measure => simp [intOf]; omega
          · have HX : Hid (false = B) := Lib.hid (by rw [← HP.out, HE.out, HQ.out, beq_eq_false_iff_ne.2 hc]; rfl)
            have dc : (y.p != 0) = true := by simpa using hc
            obtain ⟨xi, xp, xr, xe, xb, xu, xo, xl⟩ := x
            simp only at a0 a1 a2 a3 a4 a5 a6 a7 HB5 f0 f1 f2 f3 dz
            clear hb ht hx hz HWY HTM HIN HFI hl1 hi hy hc
            go_wp2_with (go_at_call 65; refine (HWk.out _ (Lib.hid (HI.out.below HB5.out.all.2))).mono ?_; rintro e w2 ⟨rfl, b2⟩; have A2 := Lib.hid (HB5.out.on b2); obtain ⟨c0, c1, c2, c3, _⟩ := A2.out.all.1; have X0 := ((bcell b2).1 wr.heap.size 0 (by simp)).trans (show (wr.alloc (Obj.cells #[.int .i64 xi, .int .i64 xp, .int .i64 xr, .int .i64 xe, .int .i64 xb, .int .i64 xu, .int .i64 xo, .int .i64 xl] 62)).cell? ⟨wr.heap.size, 0, none⟩ = some (.int .i64 xi) by simp [go_sem]); have X1 := ((bcell b2).1 wr.heap.size 1 (by simp)).trans (show (wr.alloc (Obj.cells #[.int .i64 xi, .int .i64 xp, .int .i64 xr, .int .i64 xe, .int .i64 xb, .int .i64 xu, .int .i64 xo, .int .i64 xl] 62)).cell? ⟨wr.heap.size, 1, none⟩ = some (.int .i64 xp) by simp [go_sem]); have p1 := ((HG.out.below A2.out.all.2 hg).cls vl hvl _ HY.out).2.1; clear b2; refine Hid.out ?_)
            refine Lib.hid ?_
            go_wp2_with fail
            go_quiet (fail)
            go_wp2_with (go_at_call 19; refine (HIx.out _).mono ?_; rintro e w9 ⟨rfl, rfl⟩)
            go_wp2_with fail
            go_ret
            exact ⟨ret_bool (by rw [← HX.out]), (A2.out.on (below_drewN (Below.refl _ _) _)).all.2⟩
        · have HX : Hid (false = B) := Lib.hid (by rw [← HP.out, HE.out, HQ.out, hi]; rfl)
          rw [hi] at HIx
          generalize vwN cs n 1 k = vn at *
          generalize vwL cs n k = vl at *
          obtain ⟨xi, xp, xr, xe, xb, xu, xo, xl⟩ := x
          simp only at a0 a1 a2 a3 a4 a5 a6 a7 HB5 f0 f1 f2 f3 dz
          clear hb ht hx hz HWY HTM HIN HFI hl1 hi 
          go_wp2_with (go_at_call 65; refine (HWk.out _ (Lib.hid (HI.out.below HB5.out.all.2))).mono ?_; rintro e w2 ⟨rfl, b2⟩; have A2 := Lib.hid (HB5.out.on b2); obtain ⟨c0, c1, c2, c3, _⟩ := A2.out.all.1; have X0 := ((bcell b2).1 wr.heap.size 0 (by simp)).trans (show (wr.alloc (Obj.cells #[.int .i64 xi, .int .i64 xp, .int .i64 xr, .int .i64 xe, .int .i64 xb, .int .i64 xu, .int .i64 xo, .int .i64 xl] 62)).cell? ⟨wr.heap.size, 0, none⟩ = some (.int .i64 xi) by simp [go_sem]); have X1 := ((bcell b2).1 wr.heap.size 1 (by simp)).trans (show (wr.alloc (Obj.cells #[.int .i64 xi, .int .i64 xp, .int .i64 xr, .int .i64 xe, .int .i64 xb, .int .i64 xu, .int .i64 xo, .int .i64 xl] 62)).cell? ⟨wr.heap.size, 1, none⟩ = some (.int .i64 xp) by simp [go_sem]);  clear b2; refine Hid.out ?_)
          refine Lib.hid ?_
          go_wp2_with fail
          go_quiet (fail)
          go_wp2_with (go_at_call 19; refine (HIx.out _).mono ?_; rintro e w9 ⟨rfl, rfl⟩)
          go_wp2_with fail
          go_ret
          exact ⟨ret_bool (by rw [← HX.out]), (A2.out.on (below_drewN (Below.refl _ _) _)).all.2⟩
      · have HZ : Hid (cT (cs.take (k + 1)) = z) := Lib.hid (by rw [HTM.out, if_neg hz]; rfl)
        have dz : (x.p == 0) = false := by simpa using hz
        have HQ : Hid (Q4 cs k = (inB (vwN cs n 1 k) 1 8 && ((cs.getD (vwL cs n k) cls0).p == 0))) := Lib.hid (by unfold Q4; rw [hn.out])
        have hvl : vwL cs n k < cs.length := vwL_lt cs n k hl1
        have HIx := Lib.hid (fun w' => HIN.out (vwN cs n 1 k) 1 8 w')
        rcases Bool.eq_false_or_eq_true (inB (vwN cs n 1 k) 1 8) with hi | hi
        · obtain ⟨y, hy⟩ : ∃ y, cs.getD (vwL cs n k) cls0 = y := ⟨_, rfl⟩
          have HY := Lib.hid hy
          rw [hi] at HIx
          rw [hi, hy] at HQ
          generalize vwN cs n 1 k = vn at *
          generalize vwL cs n k = vl at *
          have hvn : vl < n := by rw [← hn.out]; exact hvl
          by_cases hc : y.p = 0
          · have HX : Hid (fromK (Q4 cs) n (k + 1) = B) := Lib.hid (by rw [← HP.out, HE.out, HQ.out, hc]; rfl)
            have dc : (y.p != 0) = false := by simpa using hc
            obtain ⟨xi, xp, xr, xe, xb, xu, xo, xl⟩ := x
            simp only at a0 a1 a2 a3 a4 a5 a6 a7 HB5 f0 f1 f2 f3 dz
            clear hb ht hx hz HWY HTM HIN HFI hl1 hi hy hc
            go_wp2_with (go_at_call 65; refine (HWk.out _ (Lib.hid (HI.out.below HB5.out.all.2))).mono ?_; rintro e w2 ⟨rfl, b2⟩; have A2 := Lib.hid (HB5.out.on b2); obtain ⟨c0, c1, c2, c3, _⟩ := A2.out.all.1; have X0 := ((bcell b2).1 wr.heap.size 0 (by simp)).trans (show (wr.alloc (Obj.cells #[.int .i64 xi, .int .i64 xp, .int .i64 xr, .int .i64 xe, .int .i64 xb, .int .i64 xu, .int .i64 xo, .int .i64 xl] 62)).cell? ⟨wr.heap.size, 0, none⟩ = some (.int .i64 xi) by simp [go_sem]); have X1 := ((bcell b2).1 wr.heap.size 1 (by simp)).trans (show (wr.alloc (Obj.cells #[.int .i64 xi, .int .i64 xp, .int .i64 xr, .int .i64 xe, .int .i64 xb, .int .i64 xu, .int .i64 xo, .int .i64 xl] 62)).cell? ⟨wr.heap.size, 1, none⟩ = some (.int .i64 xp) by simp [go_sem]); have p1 := ((HG.out.below A2.out.all.2 hg).cls vl hvl _ HY.out).2.1; clear b2; refine Hid.out ?_)
            refine Lib.hid ?_
            go_wp2_with fail
            go_quiet (fail)
            go_wp2_with (go_at_call 19; refine (HIx.out _).mono ?_; rintro e w9 ⟨rfl, rfl⟩)
            go_wp2_with fail
            go_roundw
            case rel => exact ⟨k + 1, by omega, by go_num, by rw [HZ.out], A2.out.on (below_drewN (Below.refl _ _) _), HX⟩
            case measure => simp [intOf]; omega
          · have HX : Hid (false = B) := Lib.hid (by rw [← HP.out, HE.out, HQ.out, beq_eq_false_iff_ne.2 hc]; rfl)
            have dc : (y.p != 0) = true := by simpa using hc
            obtain ⟨xi, xp, xr, xe, xb, xu, xo, xl⟩ := x
            simp only at a0 a1 a2 a3 a4 a5 a6 a7 HB5 f0 f1 f2 f3 dz
            clear hb ht hx hz HWY HTM HIN HFI hl1 hi hy hc
            go_wp2_with (go_at_call 65; refine (HWk.out _ (Lib.hid (HI.out.below HB5.out.all.2))).mono ?_; rintro e w2 ⟨rfl, b2⟩; have A2 := Lib.hid (HB5.out.on b2); obtain ⟨c0, c1, c2, c3, _⟩ := A2.out.all.1; have X0 := ((bcell b2).1 wr.heap.size 0 (by simp)).trans (show (wr.alloc (Obj.cells #[.int .i64 xi, .int .i64 xp, .int .i64 xr, .int .i64 xe, .int .i64 xb, .int .i64 xu, .int .i64 xo, .int .i64 xl] 62)).cell? ⟨wr.heap.size, 0, none⟩ = some (.int .i64 xi) by simp [go_sem]); have X1 := ((bcell b2).1 wr.heap.size 1 (by simp)).trans (show (wr.alloc (Obj.cells #[.int .i64 xi, .int .i64 xp, .int .i64 xr, .int .i64 xe, .int .i64 xb, .int .i64 xu, .int .i64 xo, .int .i64 xl] 62)).cell? ⟨wr.heap.size, 1, none⟩ = some (.int .i64 xp) by simp [go_sem]); have p1 := ((HG.out.below A2.out.all.2 hg).cls vl hvl _ HY.out).2.1; clear b2; refine Hid.out ?_)
            refine Lib.hid ?_
            go_wp2_with fail
            go_quiet (fail)
            go_wp2_with (go_at_call 19; refine (HIx.out _).mono ?_; rintro e w9 ⟨rfl, rfl⟩)
            go_wp2_with fail
            go_ret
            exact ⟨ret_bool (by rw [← HX.out]), (A2.out.on (below_drewN (Below.refl _ _) _)).all.2⟩
        · have HX : Hid (false = B) := Lib.hid (by rw [← HP.out, HE.out, HQ.out, hi]; rfl)
          rw [hi] at HIx
          generalize vwN cs n 1 k = vn at *
          generalize vwL cs n k = vl at *
          obtain ⟨xi, xp, xr, xe, xb, xu, xo, xl⟩ := x
          simp only at a0 a1 a2 a3 a4 a5 a6 a7 HB5 f0 f1 f2 f3 dz
          clear hb ht hx hz HWY HTM HIN HFI hl1 hi 
          go_wp2_with (go_at_call 65; refine (HWk.out _ (Lib.hid (HI.out.below HB5.out.all.2))).mono ?_; rintro e w2 ⟨rfl, b2⟩; have A2 := Lib.hid (HB5.out.on b2); obtain ⟨c0, c1, c2, c3, _⟩ := A2.out.all.1; have X0 := ((bcell b2).1 wr.heap.size 0 (by simp)).trans (show (wr.alloc (Obj.cells #[.int .i64 xi, .int .i64 xp, .int .i64 xr, .int .i64 xe, .int .i64 xb, .int .i64 xu, .int .i64 xo, .int .i64 xl] 62)).cell? ⟨wr.heap.size, 0, none⟩ = some (.int .i64 xi) by simp [go_sem]); have X1 := ((bcell b2).1 wr.heap.size 1 (by simp)).trans (show (wr.alloc (Obj.cells #[.int .i64 xi, .int .i64 xp, .int .i64 xr, .int .i64 xe, .int .i64 xb, .int .i64 xu, .int .i64 xo, .int .i64 xl] 62)).cell? ⟨wr.heap.size, 1, none⟩ = some (.int .i64 xp) by simp [go_sem]);  clear b2; refine Hid.out ?_)
          refine Lib.hid ?_
          go_wp2_with fail
          go_quiet (fail)
          go_wp2_with (go_at_call 19; refine (HIx.out _).mono ?_; rintro e w9 ⟨rfl, rfl⟩)
          go_wp2_with fail
          go_ret
          exact ⟨ret_bool (by rw [← HX.out]), (A2.out.on (below_drewN (Below.refl _ _) _)).all.2⟩
    · have hkn : k = n := by omega
      subst hkn
      have HX : Hid (B = true) := Lib.hid (by rw [← HP.out, fromK_end _ _ k (Nat.le_refl _)])
      have HTC := Lib.hid hcT
      generalize cT (cs.take k) = z at *
      have HZC : Hid (z = cT cs) := Lib.hid HTC.out
      clear hb hcT
      go_wp2_with fail
      go_ret
      exact ⟨ret_bool (by rw [HX.out]), HB.out.all.2⟩
end Go.Proofs.YtfijhgggljaomaaDoor
