/- Chapter 8, the model: the conditions 5, 7 and 8, one condition by its number, the two functions. -/
import Derived.Test.YtfijhgggljaomaaDoorVae
import Derived.Test.YtfijhgggljaomaaDoorVaf
import Derived.Test.YtfijhgggljaomaaDoorCfx
namespace Go.Proofs.YtfijhgggljaomaaDoor
set_option maxRecDepth 100000
open Go.RowKit
set_option linter.unusedVariables false

def rcOk (x : Cls) : Bool := inB x.r 1 100000 && inB x.e x.r 100000
def bpOk (x : Cls) : Bool := (inB x.b 1500 1000000 && inB x.u 1500 1000000) && inB x.o 0 7
set_option maxRecDepth 100000 in
set_option maxHeartbeats 12800000 in
theorem vaClasses5_any (s : ByteArray) (ac af : Option Addr) (n cc m cf : Nat) (d : Int) (cs : List Cls) (w : World) (HI : Hid (InX w ac n (clsCs cs))) (hn : Hid (cs.length = n)) (h40 : n ≤ 40) :
    Calls Tryd.prog 35 #[(.agg #[.string s, .slice ac n cc, .slice af m cf, .int .i64 d]), .int .i64 5] w (SaysB w (fromK (fun k => rcOk (cs.getD k cls0)) n 0)) := by
  have q1 : n ≤ 1048576 := by omega
  obtain ⟨B, hB⟩ : ∃ B, fromK (fun k => rcOk (cs.getD k cls0)) n 0 = B := ⟨_, rfl⟩
  have H0 := Lib.hid hB
  have HIN := Lib.hid (fun a lo hi w => l1In_any a lo hi w)
  rw [hB]
  clear hB
  go_enter Tryd.func35, Tryd.ntmps35
  go_wp2_with fail
  go_loopw [10] (fun i wr => ∃ k : Nat, k ≤ n ∧ i = .int .i64 k ∧ Aft w (Obj.cells #[.string s, .slice ac n cc, .slice af m cf, .int .i64 d] 32) wr ∧ Hid (fromK (fun k => rcOk (cs.getD k cls0)) n k = B)) (fun i _ => n - (intOf i).toNat)
  case atStart => exact ⟨0, Nat.zero_le _, rfl, Aft.refl _ _, H0⟩
  case round =>
    obtain ⟨k, hk, rfl, hb, HP⟩ := hrel
    have HB := Lib.hid hb
    by_cases hlt : k < n
    · have hl1 : k < cs.length := by rw [hn.out]; exact hlt
      have HGI := HI.out
      obtain ⟨g, rfl, ht, hg⟩ := HGI (by omega)
      obtain ⟨x, hx⟩ : ∃ x, cs.getD k cls0 = x := ⟨_, rfl⟩
      obtain ⟨a0, a1, a2, a3, a4, a5, a6, a7⟩ := (ht.below hb.all.2 hg).cls k hl1 x hx
      have HE := Lib.hid (fromK_at (fun k => rcOk (cs.getD k cls0)) n k hlt)
      have HQ : Hid (rcOk (cs.getD k cls0) = rcOk x) := Lib.hid (by rw [hx])
      have HB5 := Lib.hid (HB.out.alloc (Obj.cells #[.int .i64 x.i, .int .i64 x.p, .int .i64 x.r, .int .i64 x.e, .int .i64 x.b, .int .i64 x.u, .int .i64 x.o, .int .i64 x.l] 62))
      obtain ⟨f0, f1, f2, f3, _⟩ := HB5.out.all.1
      have hX : ∀ b, rcOk x = b → (b && fromK (fun k => rcOk (cs.getD k cls0)) n (k + 1)) = B := fun b hb => by rw [← HP.out, HE.out, HQ.out, hb]
      have Hr1 := Lib.hid (fun w' => HIN.out x.r 1 100000 w')
      have Hr2 := Lib.hid (fun w' => HIN.out x.e x.r 100000 w')
      rcases Bool.eq_false_or_eq_true (inB x.r 1 100000) with hr1 | hr1
      · rcases Bool.eq_false_or_eq_true (inB x.e x.r 100000) with hr2 | hr2
        · have HX : Hid (fromK (fun k => rcOk (cs.getD k cls0)) n (k + 1) = B) := Lib.hid (by have := hX true (by unfold rcOk; rw [hr1, hr2]; rfl); rwa [Bool.true_and] at this)
          rw [hr1] at Hr1
          rw [hr2] at Hr2
          obtain ⟨xi, xp, xr, xe, xb, xu, xo, xl⟩ := x
          simp only at a0 a1 a2 a3 a4 a5 a6 a7 HB5 f0 f1 f2 f3 Hr1 Hr2
          clear hb ht hx hl1 hX HQ HE hr1 hr2
          go_wp2_with (first | (go_at_call 19; (with_reducible refine (Hr1.out _).mono ?_); rintro e w9 ⟨rfl, rfl⟩) | (go_at_call 19; (with_reducible refine (Hr2.out _).mono ?_); rintro e w9 ⟨rfl, rfl⟩))
          go_roundw
          case rel => exact ⟨k + 1, by omega, by go_num, HB5.out, HX⟩
          case measure => simp [intOf]; omega
        · have HX : Hid (false = B) := Lib.hid (by have := hX false (by unfold rcOk; rw [hr1, hr2]; simp); simpa using this)
          rw [hr1] at Hr1
          rw [hr2] at Hr2
          obtain ⟨xi, xp, xr, xe, xb, xu, xo, xl⟩ := x
          simp only at a0 a1 a2 a3 a4 a5 a6 a7 HB5 f0 f1 f2 f3 Hr1 Hr2
          clear hb ht hx hl1 hX HQ HE hr1 hr2
          go_wp2_with (first | (go_at_call 19; (with_reducible refine (Hr1.out _).mono ?_); rintro e w9 ⟨rfl, rfl⟩) | (go_at_call 19; (with_reducible refine (Hr2.out _).mono ?_); rintro e w9 ⟨rfl, rfl⟩))
          go_ret
          exact ⟨ret_bool (by rw [← HX.out]), HB5.out.all.2⟩
      · have HX : Hid (false = B) := Lib.hid (by have := hX false (by unfold rcOk; rw [hr1]; simp); simpa using this)
        rw [hr1] at Hr1
        obtain ⟨xi, xp, xr, xe, xb, xu, xo, xl⟩ := x
        simp only at a0 a1 a2 a3 a4 a5 a6 a7 HB5 f0 f1 f2 f3 Hr1 Hr2
        clear hb ht hx hl1 hX HQ HE hr1
        go_wp2_with (first | (go_at_call 19; (with_reducible refine (Hr1.out _).mono ?_); rintro e w9 ⟨rfl, rfl⟩))
        go_ret
        exact ⟨ret_bool (by rw [← HX.out]), HB5.out.all.2⟩
    · have HX : Hid (B = true) := Lib.hid (by rw [← HP.out, fromK_end _ _ k (by omega)])
      clear hb
      go_wp2_with fail
      go_ret
      exact ⟨ret_bool (by rw [HX.out]), HB.out.all.2⟩
set_option maxRecDepth 100000 in
set_option maxHeartbeats 12800000 in
theorem vaClasses7_any (s : ByteArray) (ac af : Option Addr) (n cc m cf : Nat) (d : Int) (cs : List Cls) (w : World) (HI : Hid (InX w ac n (clsCs cs))) (hn : Hid (cs.length = n)) (h40 : n ≤ 40) :
    Calls Tryd.prog 35 #[(.agg #[.string s, .slice ac n cc, .slice af m cf, .int .i64 d]), .int .i64 7] w (SaysB w (fromK (fun k => bpOk (cs.getD k cls0)) n 0)) := by
  have q1 : n ≤ 1048576 := by omega
  obtain ⟨B, hB⟩ : ∃ B, fromK (fun k => bpOk (cs.getD k cls0)) n 0 = B := ⟨_, rfl⟩
  have H0 := Lib.hid hB
  have HIN := Lib.hid (fun a lo hi w => l1In_any a lo hi w)
  rw [hB]
  clear hB
  go_enter Tryd.func35, Tryd.ntmps35
  go_wp2_with fail
  go_loopw [10] (fun i wr => ∃ k : Nat, k ≤ n ∧ i = .int .i64 k ∧ Aft w (Obj.cells #[.string s, .slice ac n cc, .slice af m cf, .int .i64 d] 32) wr ∧ Hid (fromK (fun k => bpOk (cs.getD k cls0)) n k = B)) (fun i _ => n - (intOf i).toNat)
  case atStart => exact ⟨0, Nat.zero_le _, rfl, Aft.refl _ _, H0⟩
  case round =>
    obtain ⟨k, hk, rfl, hb, HP⟩ := hrel
    have HB := Lib.hid hb
    by_cases hlt : k < n
    · have hl1 : k < cs.length := by rw [hn.out]; exact hlt
      have HGI := HI.out
      obtain ⟨g, rfl, ht, hg⟩ := HGI (by omega)
      obtain ⟨x, hx⟩ : ∃ x, cs.getD k cls0 = x := ⟨_, rfl⟩
      obtain ⟨a0, a1, a2, a3, a4, a5, a6, a7⟩ := (ht.below hb.all.2 hg).cls k hl1 x hx
      have HE := Lib.hid (fromK_at (fun k => bpOk (cs.getD k cls0)) n k hlt)
      have HQ : Hid (bpOk (cs.getD k cls0) = bpOk x) := Lib.hid (by rw [hx])
      have HB5 := Lib.hid (HB.out.alloc (Obj.cells #[.int .i64 x.i, .int .i64 x.p, .int .i64 x.r, .int .i64 x.e, .int .i64 x.b, .int .i64 x.u, .int .i64 x.o, .int .i64 x.l] 62))
      obtain ⟨f0, f1, f2, f3, _⟩ := HB5.out.all.1
      have hX : ∀ b, bpOk x = b → (b && fromK (fun k => bpOk (cs.getD k cls0)) n (k + 1)) = B := fun b hb => by rw [← HP.out, HE.out, HQ.out, hb]
      have Hr1 := Lib.hid (fun w' => HIN.out x.b 1500 1000000 w')
      have Hr2 := Lib.hid (fun w' => HIN.out x.u 1500 1000000 w')
      have Hr3 := Lib.hid (fun w' => HIN.out x.o 0 7 w')
      rcases Bool.eq_false_or_eq_true (inB x.b 1500 1000000) with hr1 | hr1
      · rcases Bool.eq_false_or_eq_true (inB x.u 1500 1000000) with hr2 | hr2
        · rcases Bool.eq_false_or_eq_true (inB x.o 0 7) with hr3 | hr3
          · have HX : Hid (fromK (fun k => bpOk (cs.getD k cls0)) n (k + 1) = B) := Lib.hid (by have := hX true (by unfold bpOk; rw [hr1, hr2, hr3]; rfl); rwa [Bool.true_and] at this)
            rw [hr1] at Hr1
            rw [hr2] at Hr2
            rw [hr3] at Hr3
            obtain ⟨xi, xp, xr, xe, xb, xu, xo, xl⟩ := x
            simp only at a0 a1 a2 a3 a4 a5 a6 a7 HB5 f0 f1 f2 f3 Hr1 Hr2 Hr3
            clear hb ht hx hl1 hX HQ HE hr1 hr2 hr3
            go_wp2_with (first | (go_at_call 19; (with_reducible refine (Hr1.out _).mono ?_); rintro e w9 ⟨rfl, rfl⟩) | (go_at_call 19; (with_reducible refine (Hr2.out _).mono ?_); rintro e w9 ⟨rfl, rfl⟩) | (go_at_call 19; (with_reducible refine (Hr3.out _).mono ?_); rintro e w9 ⟨rfl, rfl⟩))
            go_roundw
            case rel => exact ⟨k + 1, by omega, by go_num, HB5.out, HX⟩
            case measure => simp [intOf]; omega
          · have HX : Hid (false = B) := Lib.hid (by have := hX false (by unfold bpOk; rw [hr1, hr2, hr3]; simp); simpa using this)
            rw [hr1] at Hr1
            rw [hr2] at Hr2
            rw [hr3] at Hr3
            obtain ⟨xi, xp, xr, xe, xb, xu, xo, xl⟩ := x
            simp only at a0 a1 a2 a3 a4 a5 a6 a7 HB5 f0 f1 f2 f3 Hr1 Hr2 Hr3
            clear hb ht hx hl1 hX HQ HE hr1 hr2 hr3
            go_wp2_with (first | (go_at_call 19; (with_reducible refine (Hr1.out _).mono ?_); rintro e w9 ⟨rfl, rfl⟩) | (go_at_call 19; (with_reducible refine (Hr2.out _).mono ?_); rintro e w9 ⟨rfl, rfl⟩) | (go_at_call 19; (with_reducible refine (Hr3.out _).mono ?_); rintro e w9 ⟨rfl, rfl⟩))
            go_ret
            exact ⟨ret_bool (by rw [← HX.out]), HB5.out.all.2⟩
        · have HX : Hid (false = B) := Lib.hid (by have := hX false (by unfold bpOk; rw [hr1, hr2]; simp); simpa using this)
          rw [hr1] at Hr1
          rw [hr2] at Hr2
          obtain ⟨xi, xp, xr, xe, xb, xu, xo, xl⟩ := x
          simp only at a0 a1 a2 a3 a4 a5 a6 a7 HB5 f0 f1 f2 f3 Hr1 Hr2 Hr3
          clear hb ht hx hl1 hX HQ HE hr1 hr2
          go_wp2_with (first | (go_at_call 19; (with_reducible refine (Hr1.out _).mono ?_); rintro e w9 ⟨rfl, rfl⟩) | (go_at_call 19; (with_reducible refine (Hr2.out _).mono ?_); rintro e w9 ⟨rfl, rfl⟩))
          go_ret
          exact ⟨ret_bool (by rw [← HX.out]), HB5.out.all.2⟩
      · have HX : Hid (false = B) := Lib.hid (by have := hX false (by unfold bpOk; rw [hr1]; simp); simpa using this)
        rw [hr1] at Hr1
        obtain ⟨xi, xp, xr, xe, xb, xu, xo, xl⟩ := x
        simp only at a0 a1 a2 a3 a4 a5 a6 a7 HB5 f0 f1 f2 f3 Hr1 Hr2 Hr3
        clear hb ht hx hl1 hX HQ HE hr1
        go_wp2_with (first | (go_at_call 19; (with_reducible refine (Hr1.out _).mono ?_); rintro e w9 ⟨rfl, rfl⟩))
        go_ret
        exact ⟨ret_bool (by rw [← HX.out]), HB5.out.all.2⟩
    · have HX : Hid (B = true) := Lib.hid (by rw [← HP.out, fromK_end _ _ k (by omega)])
      clear hb
      go_wp2_with fail
      go_ret
      exact ⟨ret_bool (by rw [HX.out]), HB.out.all.2⟩
set_option maxRecDepth 100000 in
set_option maxHeartbeats 12800000 in
theorem vaClasses8_any (s : ByteArray) (ac af : Option Addr) (n cc m cf : Nat) (d : Int) (cs : List Cls) (w : World) (HI : Hid (InX w ac n (clsCs cs))) (hn : Hid (cs.length = n)) (h40 : n ≤ 40) :
    Calls Tryd.prog 35 #[(.agg #[.string s, .slice ac n cc, .slice af m cf, .int .i64 d]), .int .i64 8] w (SaysB w (fromK (fun k => limOk cs (cs.getD k cls0)) n 0)) := by
  have q1 : n ≤ 1048576 := by omega
  obtain ⟨B, hB⟩ : ∃ B, fromK (fun k => limOk cs (cs.getD k cls0)) n 0 = B := ⟨_, rfl⟩
  have H0 := Lib.hid hB
  have HIN := Lib.hid (fun a lo hi w => l1In_any a lo hi w)
  have HLE := Lib.hid (fun k (hk : k < n) w' HI => cfLeaf_any s ac af n cc m cf d cs k w' HI hn q1 hk)
  rw [hB]
  clear hB
  go_enter Tryd.func35, Tryd.ntmps35
  go_wp2_with fail
  go_loopw [10] (fun i wr => ∃ k : Nat, k ≤ n ∧ i = .int .i64 k ∧ Aft w (Obj.cells #[.string s, .slice ac n cc, .slice af m cf, .int .i64 d] 32) wr ∧ Hid (fromK (fun k => limOk cs (cs.getD k cls0)) n k = B)) (fun i _ => n - (intOf i).toNat)
  case atStart => exact ⟨0, Nat.zero_le _, rfl, Aft.refl _ _, H0⟩
  case round =>
    obtain ⟨k, hk, rfl, hb, HP⟩ := hrel
    have HB := Lib.hid hb
    by_cases hlt : k < n
    · have hl1 : k < cs.length := by rw [hn.out]; exact hlt
      have HGI := HI.out
      obtain ⟨g, rfl, ht, hg⟩ := HGI (by omega)
      obtain ⟨x, hx⟩ : ∃ x, cs.getD k cls0 = x := ⟨_, rfl⟩
      obtain ⟨a0, a1, a2, a3, a4, a5, a6, a7⟩ := (ht.below hb.all.2 hg).cls k hl1 x hx
      have HE := Lib.hid (fromK_at (fun k => limOk cs (cs.getD k cls0)) n k hlt)
      have HQ : Hid (limOk cs (cs.getD k cls0) = limOk cs x) := Lib.hid (by rw [hx])
      have HB5 := Lib.hid (HB.out.alloc (Obj.cells #[.int .i64 x.i, .int .i64 x.p, .int .i64 x.r, .int .i64 x.e, .int .i64 x.b, .int .i64 x.u, .int .i64 x.o, .int .i64 x.l] 62))
      obtain ⟨f0, f1, f2, f3, _⟩ := HB5.out.all.1
      have hX : ∀ b, limOk cs x = b → (b && fromK (fun k => limOk cs (cs.getD k cls0)) n (k + 1)) = B := fun b hb => by rw [← HP.out, HE.out, HQ.out, hb]
      have HLF := Lib.hid (fun w' HI => HLE.out k hlt w' HI)
      rw [hx] at HLF
      have HL1 := Lib.hid (fun w' => HIN.out x.l 1 60 w')
      rcases Bool.eq_false_or_eq_true (hasK cs x.i) with hh | hh
      · rw [hh] at HLF
        by_cases hz : x.l = 0
        · have dz : (x.l != 0) = false := by rw [hz]; rfl
          have ez : (x.l == 0) = true := by rw [hz]; rfl
          have HX : Hid (fromK (fun k => limOk cs (cs.getD k cls0)) n (k + 1) = B) := Lib.hid (by have := hX true (by unfold limOk; rw [hh, if_pos rfl, ez]); rwa [Bool.true_and] at this)
          obtain ⟨xi, xp, xr, xe, xb, xu, xo, xl⟩ := x
          simp only at a0 a1 a2 a3 a4 a5 a6 a7 HB5 f0 f1 f2 f3 HLF dz
          clear hb ht hx hl1 hX HQ HE hh hz ez
          go_wp2_with (go_at_call 69; refine (HLF.out _ (Lib.hid (HI.out.below HB5.out.all.2))).mono ?_; rintro e w2 ⟨rfl, b2⟩; have Aw2 := Lib.hid (HB5.out.on b2); obtain ⟨c0, c1, c2, c3, _⟩ := Aw2.out.all.1; have X7 := ((bcell b2).1 wr.heap.size 7 (by simp)).trans (show (wr.alloc (Obj.cells #[.int .i64 xi, .int .i64 xp, .int .i64 xr, .int .i64 xe, .int .i64 xb, .int .i64 xu, .int .i64 xo, .int .i64 xl] 62)).cell? ⟨wr.heap.size, 7, none⟩ = some (.int .i64 xl) by simp [go_sem]); have hwr2 : wr.heap.size < w2.heap.size := (Nat.lt_of_lt_of_le (by simp) b2.size); clear b2; refine Hid.out ?_)
          refine Lib.hid ?_
          go_wp2_with (go_at_call 69; refine (HLF.out _ (Lib.hid (HI.out.below Aw2.out.all.2))).mono ?_; rintro e w3 ⟨rfl, b2⟩; have Aw3 := Lib.hid (Aw2.out.on b2); obtain ⟨d0, d1, d2, d3, _⟩ := Aw3.out.all.1; have X7' := ((bcell b2).1 wr.heap.size 7 hwr2).trans X7; clear b2; refine Hid.out ?_)
          refine Lib.hid ?_
          go_wp2_with fail
          go_roundw
          case rel => exact ⟨k + 1, by omega, by go_num, Aw3.out, HX⟩
          case measure => simp [intOf]; omega
        · have dz : (x.l != 0) = true := by simpa using hz
          have ez : (x.l == 0) = false := by simpa using hz
          have HX : Hid (false = B) := Lib.hid (by have := hX false (by unfold limOk; rw [hh, if_pos rfl, ez]); simpa using this)
          obtain ⟨xi, xp, xr, xe, xb, xu, xo, xl⟩ := x
          simp only at a0 a1 a2 a3 a4 a5 a6 a7 HB5 f0 f1 f2 f3 HLF dz
          clear hb ht hx hl1 hX HQ HE hh hz ez
          go_wp2_with (go_at_call 69; refine (HLF.out _ (Lib.hid (HI.out.below HB5.out.all.2))).mono ?_; rintro e w2 ⟨rfl, b2⟩; have Aw2 := Lib.hid (HB5.out.on b2); obtain ⟨c0, c1, c2, c3, _⟩ := Aw2.out.all.1; have X7 := ((bcell b2).1 wr.heap.size 7 (by simp)).trans (show (wr.alloc (Obj.cells #[.int .i64 xi, .int .i64 xp, .int .i64 xr, .int .i64 xe, .int .i64 xb, .int .i64 xu, .int .i64 xo, .int .i64 xl] 62)).cell? ⟨wr.heap.size, 7, none⟩ = some (.int .i64 xl) by simp [go_sem]); have hwr2 : wr.heap.size < w2.heap.size := (Nat.lt_of_lt_of_le (by simp) b2.size); clear b2; refine Hid.out ?_)
          refine Lib.hid ?_
          go_wp2_with (go_at_call 69; refine (HLF.out _ (Lib.hid (HI.out.below Aw2.out.all.2))).mono ?_; rintro e w3 ⟨rfl, b2⟩; have Aw3 := Lib.hid (Aw2.out.on b2); obtain ⟨d0, d1, d2, d3, _⟩ := Aw3.out.all.1; have X7' := ((bcell b2).1 wr.heap.size 7 hwr2).trans X7; clear b2; refine Hid.out ?_)
          refine Lib.hid ?_
          go_wp2_with fail
          go_ret
          exact ⟨ret_bool (by rw [← HX.out]), Aw3.out.all.2⟩
      · rw [hh] at HLF
        rcases Bool.eq_false_or_eq_true (inB x.l 1 60) with hi | hi
        · rw [hi] at HL1
          have HX : Hid (fromK (fun k => limOk cs (cs.getD k cls0)) n (k + 1) = B) := Lib.hid (by have := hX true (by unfold limOk; rw [hh, if_neg Bool.false_ne_true, hi]); rwa [Bool.true_and] at this)
          obtain ⟨xi, xp, xr, xe, xb, xu, xo, xl⟩ := x
          simp only at a0 a1 a2 a3 a4 a5 a6 a7 HB5 f0 f1 f2 f3 HLF HL1
          clear hb ht hx hl1 hX HQ HE hh hi
          go_wp2_with (go_at_call 69; refine (HLF.out _ (Lib.hid (HI.out.below HB5.out.all.2))).mono ?_; rintro e w2 ⟨rfl, b2⟩; have Aw2 := Lib.hid (HB5.out.on b2); obtain ⟨c0, c1, c2, c3, _⟩ := Aw2.out.all.1; have X7 := ((bcell b2).1 wr.heap.size 7 (by simp)).trans (show (wr.alloc (Obj.cells #[.int .i64 xi, .int .i64 xp, .int .i64 xr, .int .i64 xe, .int .i64 xb, .int .i64 xu, .int .i64 xo, .int .i64 xl] 62)).cell? ⟨wr.heap.size, 7, none⟩ = some (.int .i64 xl) by simp [go_sem]); have hwr2 : wr.heap.size < w2.heap.size := (Nat.lt_of_lt_of_le (by simp) b2.size); clear b2; refine Hid.out ?_)
          refine Lib.hid ?_
          go_wp2_with (first | (go_at_call 19; (with_reducible refine (HL1.out _).mono ?_); rintro e w9 ⟨rfl, rfl⟩) | (go_at_call 69; (with_reducible refine (HLF.out _ (Lib.hid (HI.out.below Aw2.out.all.2))).mono ?_); rintro e w3 ⟨rfl, b2⟩; have Aw3 := Lib.hid (Aw2.out.on b2); clear b2))
          go_roundw
          case rel => exact ⟨k + 1, by omega, by go_num, Aw3.out, HX⟩
          case measure => simp [intOf]; omega
        · rw [hi] at HL1
          have HX : Hid (false = B) := Lib.hid (by have := hX false (by unfold limOk; rw [hh, if_neg Bool.false_ne_true, hi]); simpa using this)
          obtain ⟨xi, xp, xr, xe, xb, xu, xo, xl⟩ := x
          simp only at a0 a1 a2 a3 a4 a5 a6 a7 HB5 f0 f1 f2 f3 HLF HL1
          clear hb ht hx hl1 hX HQ HE hh hi
          go_wp2_with (go_at_call 69; refine (HLF.out _ (Lib.hid (HI.out.below HB5.out.all.2))).mono ?_; rintro e w2 ⟨rfl, b2⟩; have Aw2 := Lib.hid (HB5.out.on b2); obtain ⟨c0, c1, c2, c3, _⟩ := Aw2.out.all.1; have X7 := ((bcell b2).1 wr.heap.size 7 (by simp)).trans (show (wr.alloc (Obj.cells #[.int .i64 xi, .int .i64 xp, .int .i64 xr, .int .i64 xe, .int .i64 xb, .int .i64 xu, .int .i64 xo, .int .i64 xl] 62)).cell? ⟨wr.heap.size, 7, none⟩ = some (.int .i64 xl) by simp [go_sem]); have hwr2 : wr.heap.size < w2.heap.size := (Nat.lt_of_lt_of_le (by simp) b2.size); clear b2; refine Hid.out ?_)
          refine Lib.hid ?_
          go_wp2_with (go_at_call 19; (with_reducible refine (HL1.out _).mono ?_); rintro e w9 ⟨rfl, rfl⟩)
          go_ret
          exact ⟨ret_bool (by rw [← HX.out]), Aw2.out.all.2⟩
    · have HX : Hid (B = true) := Lib.hid (by rw [← HP.out, fromK_end _ _ k (by omega)])
      clear hb
      go_wp2_with fail
      go_ret
      exact ⟨ret_bool (by rw [HX.out]), HB.out.all.2⟩
/-- one condition by its number -/
def holdP (c : Cfg) (k : Nat) : Bool :=
  match k with
  | 1 => nmG c.s
  | 2 => fromK (Q2 c.cs) c.cs.length 0 && inB (c.cs.length : Int) 1 24
  | 3 => fromK (Q3 c.cs) c.cs.length 0 && ((cT c.cs : Int) == 1)
  | 4 => fromK (Q4 c.cs) c.cs.length 0
  | 5 => fromK (fun k => rcOk (c.cs.getD k cls0)) c.cs.length 0
  | 6 => ratesC c && (((selF (overP c) c.cs.length 0).length : Int) == 0)
  | 7 => fromK (fun k => bpOk (c.cs.getD k cls0)) c.cs.length 0
  | 8 => fromK (fun k => limOk c.cs (c.cs.getD k cls0)) c.cs.length 0
  | 9 => fltG c.cs c.fs
  | 10 => (c.d == 0) || leafB c.cs c.d
  | _ => false
set_option maxRecDepth 100000 in
set_option maxHeartbeats 6400000 in
theorem vaHolds1_any (v : Value) (c : Cfg) (w : World) (HV : Hid (CfgV w v c)) (HM : Hid (CfgM c)) (hr : rawC c = true) :
    Calls Tryd.prog 20 #[v, .int .i64 1] w (SaysB w (holdP c 1)) := by
  obtain ⟨h40, hf40⟩ := raw_of hr
  clear hr
  obtain ⟨ac, cc, af, cf, rfl, ic, if_⟩ := HV.out
  obtain ⟨s, cs, fs, d⟩ := c
  have hM := HM.out
  unfold CfgM at hM
  simp only at ic if_ hM HV ⊢
  obtain ⟨q0, q1, q2⟩ := hM
  have HI := Lib.hid ic
  have HJ := Lib.hid if_
  have HVB := Lib.hid (fun w' (b : Below w.heap.size w w') => Lib.hid (HV.out.below b))
  have A0 := Lib.hid (Aft.refl w (Obj.cells #[.string s, .slice ac cs.length cc, .slice af fs.length cf, .int .i64 d] 32))
  clear ic if_
  simp only at h40 hf40
  have HC := Lib.hid (fun w' => (show Calls Tryd.prog 29 #[.string s] w' (SaysB w' (holdP ⟨s, cs, fs, d⟩ 1)) from cfName_any s w' q0))
  generalize holdP ⟨s, cs, fs, d⟩ 1 = R at HC ⊢
  go_enter Tryd.func20, Tryd.ntmps20
  go_wp2_with (go_at_call 29; refine (HC.out _).mono ?_; rintro e w1 ⟨rfl, b1⟩; have A1 := Lib.hid (A0.out.on b1); clear b1)
  go_ret
  exact ⟨rfl, A1.out.all.2⟩
set_option maxRecDepth 100000 in
set_option maxHeartbeats 6400000 in
theorem vaHolds2_any (v : Value) (c : Cfg) (w : World) (HV : Hid (CfgV w v c)) (HM : Hid (CfgM c)) (hr : rawC c = true) :
    Calls Tryd.prog 20 #[v, .int .i64 2] w (SaysB w (holdP c 2)) := by
  obtain ⟨h40, hf40⟩ := raw_of hr
  clear hr
  obtain ⟨ac, cc, af, cf, rfl, ic, if_⟩ := HV.out
  obtain ⟨s, cs, fs, d⟩ := c
  have hM := HM.out
  unfold CfgM at hM
  simp only at ic if_ hM HV ⊢
  obtain ⟨q0, q1, q2⟩ := hM
  have HI := Lib.hid ic
  have HJ := Lib.hid if_
  have HVB := Lib.hid (fun w' (b : Below w.heap.size w w') => Lib.hid (HV.out.below b))
  have A0 := Lib.hid (Aft.refl w (Obj.cells #[.string s, .slice ac cs.length cc, .slice af fs.length cf, .int .i64 d] 32))
  clear ic if_
  simp only at h40 hf40
  have HC := Lib.hid (fun w' HI => (show Calls Tryd.prog 30 #[(.agg #[.string s, .slice ac cs.length cc, .slice af fs.length cf, .int .i64 d]), .int .i64 2] w' (SaysB w' (holdP ⟨s, cs, fs, d⟩ 2)) from vaTree2_any s ac af cs.length cc fs.length cf d cs w' HI (Lib.hid rfl) h40))
  generalize holdP ⟨s, cs, fs, d⟩ 2 = R at HC ⊢
  go_enter Tryd.func20, Tryd.ntmps20
  go_wp2_with (go_at_call 30; refine (HC.out _ (Lib.hid (HI.out.below A0.out.all.2))).mono ?_; rintro e w1 ⟨rfl, b1⟩; have A1 := Lib.hid (A0.out.on b1); clear b1)
  go_ret
  exact ⟨rfl, A1.out.all.2⟩
set_option maxRecDepth 100000 in
set_option maxHeartbeats 6400000 in
theorem vaHolds3_any (v : Value) (c : Cfg) (w : World) (HV : Hid (CfgV w v c)) (HM : Hid (CfgM c)) (hr : rawC c = true) :
    Calls Tryd.prog 20 #[v, .int .i64 3] w (SaysB w (holdP c 3)) := by
  obtain ⟨h40, hf40⟩ := raw_of hr
  clear hr
  obtain ⟨ac, cc, af, cf, rfl, ic, if_⟩ := HV.out
  obtain ⟨s, cs, fs, d⟩ := c
  have hM := HM.out
  unfold CfgM at hM
  simp only at ic if_ hM HV ⊢
  obtain ⟨q0, q1, q2⟩ := hM
  have HI := Lib.hid ic
  have HJ := Lib.hid if_
  have HVB := Lib.hid (fun w' (b : Below w.heap.size w w') => Lib.hid (HV.out.below b))
  have A0 := Lib.hid (Aft.refl w (Obj.cells #[.string s, .slice ac cs.length cc, .slice af fs.length cf, .int .i64 d] 32))
  clear ic if_
  simp only at h40 hf40
  have HC := Lib.hid (fun w' HI => (show Calls Tryd.prog 30 #[(.agg #[.string s, .slice ac cs.length cc, .slice af fs.length cf, .int .i64 d]), .int .i64 3] w' (SaysB w' (holdP ⟨s, cs, fs, d⟩ 3)) from vaTree3_any s ac af cs.length cc fs.length cf d cs w' HI (Lib.hid rfl) h40))
  generalize holdP ⟨s, cs, fs, d⟩ 3 = R at HC ⊢
  go_enter Tryd.func20, Tryd.ntmps20
  go_wp2_with (go_at_call 30; refine (HC.out _ (Lib.hid (HI.out.below A0.out.all.2))).mono ?_; rintro e w1 ⟨rfl, b1⟩; have A1 := Lib.hid (A0.out.on b1); clear b1)
  go_ret
  exact ⟨rfl, A1.out.all.2⟩
set_option maxRecDepth 100000 in
set_option maxHeartbeats 6400000 in
theorem vaHolds4_any (v : Value) (c : Cfg) (w : World) (HV : Hid (CfgV w v c)) (HM : Hid (CfgM c)) (hr : rawC c = true) :
    Calls Tryd.prog 20 #[v, .int .i64 4] w (SaysB w (holdP c 4)) := by
  obtain ⟨h40, hf40⟩ := raw_of hr
  clear hr
  obtain ⟨ac, cc, af, cf, rfl, ic, if_⟩ := HV.out
  obtain ⟨s, cs, fs, d⟩ := c
  have hM := HM.out
  unfold CfgM at hM
  simp only at ic if_ hM HV ⊢
  obtain ⟨q0, q1, q2⟩ := hM
  have HI := Lib.hid ic
  have HJ := Lib.hid if_
  have HVB := Lib.hid (fun w' (b : Below w.heap.size w w') => Lib.hid (HV.out.below b))
  have A0 := Lib.hid (Aft.refl w (Obj.cells #[.string s, .slice ac cs.length cc, .slice af fs.length cf, .int .i64 d] 32))
  clear ic if_
  simp only at h40 hf40
  have HC := Lib.hid (fun w' HI => (show Calls Tryd.prog 30 #[(.agg #[.string s, .slice ac cs.length cc, .slice af fs.length cf, .int .i64 d]), .int .i64 4] w' (SaysB w' (holdP ⟨s, cs, fs, d⟩ 4)) from vaTree4_any s ac af cs.length cc fs.length cf d cs w' HI (Lib.hid rfl) h40))
  generalize holdP ⟨s, cs, fs, d⟩ 4 = R at HC ⊢
  go_enter Tryd.func20, Tryd.ntmps20
  go_wp2_with (go_at_call 30; refine (HC.out _ (Lib.hid (HI.out.below A0.out.all.2))).mono ?_; rintro e w1 ⟨rfl, b1⟩; have A1 := Lib.hid (A0.out.on b1); clear b1)
  go_ret
  exact ⟨rfl, A1.out.all.2⟩
set_option maxRecDepth 100000 in
set_option maxHeartbeats 6400000 in
theorem vaHolds5_any (v : Value) (c : Cfg) (w : World) (HV : Hid (CfgV w v c)) (HM : Hid (CfgM c)) (hr : rawC c = true) :
    Calls Tryd.prog 20 #[v, .int .i64 5] w (SaysB w (holdP c 5)) := by
  obtain ⟨h40, hf40⟩ := raw_of hr
  clear hr
  obtain ⟨ac, cc, af, cf, rfl, ic, if_⟩ := HV.out
  obtain ⟨s, cs, fs, d⟩ := c
  have hM := HM.out
  unfold CfgM at hM
  simp only at ic if_ hM HV ⊢
  obtain ⟨q0, q1, q2⟩ := hM
  have HI := Lib.hid ic
  have HJ := Lib.hid if_
  have HVB := Lib.hid (fun w' (b : Below w.heap.size w w') => Lib.hid (HV.out.below b))
  have A0 := Lib.hid (Aft.refl w (Obj.cells #[.string s, .slice ac cs.length cc, .slice af fs.length cf, .int .i64 d] 32))
  clear ic if_
  simp only at h40 hf40
  have HC := Lib.hid (fun w' HI => (show Calls Tryd.prog 35 #[(.agg #[.string s, .slice ac cs.length cc, .slice af fs.length cf, .int .i64 d]), .int .i64 5] w' (SaysB w' (holdP ⟨s, cs, fs, d⟩ 5)) from vaClasses5_any s ac af cs.length cc fs.length cf d cs w' HI (Lib.hid rfl) h40))
  generalize holdP ⟨s, cs, fs, d⟩ 5 = R at HC ⊢
  go_enter Tryd.func20, Tryd.ntmps20
  go_wp2_with (go_at_call 35; refine (HC.out _ (Lib.hid (HI.out.below A0.out.all.2))).mono ?_; rintro e w1 ⟨rfl, b1⟩; have A1 := Lib.hid (A0.out.on b1); clear b1)
  go_ret
  exact ⟨rfl, A1.out.all.2⟩
set_option maxRecDepth 100000 in
set_option maxHeartbeats 6400000 in
theorem vaHolds6_any (v : Value) (c : Cfg) (w : World) (HV : Hid (CfgV w v c)) (HM : Hid (CfgM c)) (hr : rawC c = true) :
    Calls Tryd.prog 20 #[v, .int .i64 6] w (SaysB w (holdP c 6)) := by
  obtain ⟨h40, hf40⟩ := raw_of hr
  clear hr
  obtain ⟨ac, cc, af, cf, rfl, ic, if_⟩ := HV.out
  obtain ⟨s, cs, fs, d⟩ := c
  have hM := HM.out
  unfold CfgM at hM
  simp only at ic if_ hM HV ⊢
  obtain ⟨q0, q1, q2⟩ := hM
  have HI := Lib.hid ic
  have HJ := Lib.hid if_
  have HVB := Lib.hid (fun w' (b : Below w.heap.size w w') => Lib.hid (HV.out.below b))
  have A0 := Lib.hid (Aft.refl w (Obj.cells #[.string s, .slice ac cs.length cc, .slice af fs.length cf, .int .i64 d] 32))
  clear ic if_
  simp only at h40 hf40
  have HRT := Lib.hid (fun w' HI => vaRates_any s ac af cs.length cc fs.length cf d cs w' HI (Lib.hid rfl) q1)
  have HX : Hid (holdP ⟨s, cs, fs, d⟩ 6 = (ratesC ⟨s, cs, fs, d⟩ && (((selF (overP ⟨s, cs, fs, d⟩) cs.length 0).length : Int) == 0))) := Lib.hid rfl
  have HRC : Hid (fromK (fun k => rawR (cs.getD k cls0)) cs.length 0 = ratesC ⟨s, cs, fs, d⟩) := Lib.hid rfl
  rw [HRC.out] at HRT
  generalize holdP ⟨s, cs, fs, d⟩ 6 = R at HX ⊢
  cases hr : ratesC ⟨s, cs, fs, d⟩
  · rw [hr] at HRT HX
    clear HRC
    go_enter Tryd.func20, Tryd.ntmps20
    go_wp2_with (go_at_call 31; refine (HRT.out _ (Lib.hid (HI.out.below A0.out.all.2))).mono ?_; rintro e w1 ⟨rfl, b1⟩; have A1 := Lib.hid (A0.out.on b1); clear b1)
    go_ret
    exact ⟨ret_bool (by rw [HX.out]; rfl), A1.out.all.2⟩
  · have HOV := Lib.hid (fun w' HI => vaOver_any s ac af cs.length cc fs.length cf d cs fs w' HI (Lib.hid rfl) h40 (Lib.hid (rates_raw hr)))
    rw [hr] at HRT HX
    try simp only at HX
    generalize selF (overP ⟨s, cs, fs, d⟩) cs.length 0 = K at HOV HX
    obtain ⟨q, hq⟩ : ∃ q, ((K.length : Int) == 0) = q := ⟨_, rfl⟩
    rw [hq] at HX
    clear HRC hr
    go_enter Tryd.func20, Tryd.ntmps20
    go_wp2_with (go_at_call 31; refine (HRT.out _ (Lib.hid (HI.out.below A0.out.all.2))).mono ?_; rintro e w1 ⟨rfl, b1⟩; have A1 := Lib.hid (A0.out.on b1); obtain ⟨c0, c1, c2, c3, _⟩ := A1.out.all.1; clear b1)
    go_wp2_with (go_at_call 32; refine (HOV.out _ (Lib.hid (HI.out.below A1.out.all.2))).mono ?_; rintro e w2 ⟨v2, rfl, o2, b2⟩; have A2 := Lib.hid (A1.out.on b2); obtain ⟨p2, k2, rfl, _⟩ := own_in o2; clear b2 o2)
    go_ret
    exact ⟨ret_bool (by rw [HX.out]; rfl), A2.out.all.2⟩
set_option maxRecDepth 100000 in
set_option maxHeartbeats 6400000 in
theorem vaHolds7_any (v : Value) (c : Cfg) (w : World) (HV : Hid (CfgV w v c)) (HM : Hid (CfgM c)) (hr : rawC c = true) :
    Calls Tryd.prog 20 #[v, .int .i64 7] w (SaysB w (holdP c 7)) := by
  obtain ⟨h40, hf40⟩ := raw_of hr
  clear hr
  obtain ⟨ac, cc, af, cf, rfl, ic, if_⟩ := HV.out
  obtain ⟨s, cs, fs, d⟩ := c
  have hM := HM.out
  unfold CfgM at hM
  simp only at ic if_ hM HV ⊢
  obtain ⟨q0, q1, q2⟩ := hM
  have HI := Lib.hid ic
  have HJ := Lib.hid if_
  have HVB := Lib.hid (fun w' (b : Below w.heap.size w w') => Lib.hid (HV.out.below b))
  have A0 := Lib.hid (Aft.refl w (Obj.cells #[.string s, .slice ac cs.length cc, .slice af fs.length cf, .int .i64 d] 32))
  clear ic if_
  simp only at h40 hf40
  have HC := Lib.hid (fun w' HI => (show Calls Tryd.prog 35 #[(.agg #[.string s, .slice ac cs.length cc, .slice af fs.length cf, .int .i64 d]), .int .i64 7] w' (SaysB w' (holdP ⟨s, cs, fs, d⟩ 7)) from vaClasses7_any s ac af cs.length cc fs.length cf d cs w' HI (Lib.hid rfl) h40))
  generalize holdP ⟨s, cs, fs, d⟩ 7 = R at HC ⊢
  go_enter Tryd.func20, Tryd.ntmps20
  go_wp2_with (go_at_call 35; refine (HC.out _ (Lib.hid (HI.out.below A0.out.all.2))).mono ?_; rintro e w1 ⟨rfl, b1⟩; have A1 := Lib.hid (A0.out.on b1); clear b1)
  go_ret
  exact ⟨rfl, A1.out.all.2⟩
set_option maxRecDepth 100000 in
set_option maxHeartbeats 6400000 in
theorem vaHolds8_any (v : Value) (c : Cfg) (w : World) (HV : Hid (CfgV w v c)) (HM : Hid (CfgM c)) (hr : rawC c = true) :
    Calls Tryd.prog 20 #[v, .int .i64 8] w (SaysB w (holdP c 8)) := by
  obtain ⟨h40, hf40⟩ := raw_of hr
  clear hr
  obtain ⟨ac, cc, af, cf, rfl, ic, if_⟩ := HV.out
  obtain ⟨s, cs, fs, d⟩ := c
  have hM := HM.out
  unfold CfgM at hM
  simp only at ic if_ hM HV ⊢
  obtain ⟨q0, q1, q2⟩ := hM
  have HI := Lib.hid ic
  have HJ := Lib.hid if_
  have HVB := Lib.hid (fun w' (b : Below w.heap.size w w') => Lib.hid (HV.out.below b))
  have A0 := Lib.hid (Aft.refl w (Obj.cells #[.string s, .slice ac cs.length cc, .slice af fs.length cf, .int .i64 d] 32))
  clear ic if_
  simp only at h40 hf40
  have HC := Lib.hid (fun w' HI => (show Calls Tryd.prog 35 #[(.agg #[.string s, .slice ac cs.length cc, .slice af fs.length cf, .int .i64 d]), .int .i64 8] w' (SaysB w' (holdP ⟨s, cs, fs, d⟩ 8)) from vaClasses8_any s ac af cs.length cc fs.length cf d cs w' HI (Lib.hid rfl) h40))
  generalize holdP ⟨s, cs, fs, d⟩ 8 = R at HC ⊢
  go_enter Tryd.func20, Tryd.ntmps20
  go_wp2_with (go_at_call 35; refine (HC.out _ (Lib.hid (HI.out.below A0.out.all.2))).mono ?_; rintro e w1 ⟨rfl, b1⟩; have A1 := Lib.hid (A0.out.on b1); clear b1)
  go_ret
  exact ⟨rfl, A1.out.all.2⟩
set_option maxRecDepth 100000 in
set_option maxHeartbeats 6400000 in
theorem vaHolds9_any (v : Value) (c : Cfg) (w : World) (HV : Hid (CfgV w v c)) (HM : Hid (CfgM c)) (hr : rawC c = true) :
    Calls Tryd.prog 20 #[v, .int .i64 9] w (SaysB w (holdP c 9)) := by
  obtain ⟨h40, hf40⟩ := raw_of hr
  clear hr
  obtain ⟨ac, cc, af, cf, rfl, ic, if_⟩ := HV.out
  obtain ⟨s, cs, fs, d⟩ := c
  have hM := HM.out
  unfold CfgM at hM
  simp only at ic if_ hM HV ⊢
  obtain ⟨q0, q1, q2⟩ := hM
  have HI := Lib.hid ic
  have HJ := Lib.hid if_
  have HVB := Lib.hid (fun w' (b : Below w.heap.size w w') => Lib.hid (HV.out.below b))
  have A0 := Lib.hid (Aft.refl w (Obj.cells #[.string s, .slice ac cs.length cc, .slice af fs.length cf, .int .i64 d] 32))
  clear ic if_
  simp only at h40 hf40
  have HC := Lib.hid (fun w' HI HJ => (show Calls Tryd.prog 33 #[(.agg #[.string s, .slice ac cs.length cc, .slice af fs.length cf, .int .i64 d])] w' (SaysB w' (holdP ⟨s, cs, fs, d⟩ 9)) from cfFilters_any s ac af cs.length cc fs.length cf d cs fs w' HI (Lib.hid rfl) q1 HJ (Lib.hid rfl) q2))
  generalize holdP ⟨s, cs, fs, d⟩ 9 = R at HC ⊢
  go_enter Tryd.func20, Tryd.ntmps20
  go_wp2_with (go_at_call 33; refine (HC.out _ (Lib.hid (HI.out.below A0.out.all.2)) (Lib.hid (HJ.out.below A0.out.all.2))).mono ?_; rintro e w1 ⟨rfl, b1⟩; have A1 := Lib.hid (A0.out.on b1); clear b1)
  go_ret
  exact ⟨rfl, A1.out.all.2⟩
set_option maxRecDepth 100000 in
set_option maxHeartbeats 6400000 in
theorem vaHolds10_any (v : Value) (c : Cfg) (w : World) (HV : Hid (CfgV w v c)) (HM : Hid (CfgM c)) (hr : rawC c = true) :
    Calls Tryd.prog 20 #[v, .int .i64 10] w (SaysB w (holdP c 10)) := by
  obtain ⟨h40, hf40⟩ := raw_of hr
  clear hr
  obtain ⟨ac, cc, af, cf, rfl, ic, if_⟩ := HV.out
  obtain ⟨s, cs, fs, d⟩ := c
  have hM := HM.out
  unfold CfgM at hM
  simp only at ic if_ hM HV ⊢
  obtain ⟨q0, q1, q2⟩ := hM
  have HI := Lib.hid ic
  have HJ := Lib.hid if_
  have HVB := Lib.hid (fun w' (b : Below w.heap.size w w') => Lib.hid (HV.out.below b))
  have A0 := Lib.hid (Aft.refl w (Obj.cells #[.string s, .slice ac cs.length cc, .slice af fs.length cf, .int .i64 d] 32))
  clear ic if_
  simp only at h40 hf40
  have HC := Lib.hid (fun w' HI => cfTarget_any s ac af cs.length cc fs.length cf d cs d w' HI (Lib.hid rfl) q1)
  have HX : Hid (holdP ⟨s, cs, fs, d⟩ 10 = ((d == 0) || leafB cs d)) := Lib.hid rfl
  generalize holdP ⟨s, cs, fs, d⟩ 10 = R at HX ⊢
  generalize leafB cs d = lb at HC HX
  obtain ⟨q, hq⟩ : ∃ q, (d == 0) = q := ⟨_, rfl⟩
  rw [hq] at HX
  cases q
  · go_enter Tryd.func20, Tryd.ntmps20
    go_wp2_with (go_at_call 34; refine (HC.out _ (Lib.hid (HI.out.below A0.out.all.2))).mono ?_; rintro e w1 ⟨rfl, b1⟩; have A1 := Lib.hid (A0.out.on b1); clear b1)
    go_ret
    exact ⟨ret_bool (by rw [HX.out]; rfl), A1.out.all.2⟩
  · go_enter Tryd.func20, Tryd.ntmps20
    go_wp2_with fail
    go_ret
    exact ⟨ret_bool (by rw [HX.out]; rfl), A0.out.all.2⟩
theorem vaHolds_any (v : Value) (c : Cfg) (k : Nat) (w : World) (HV : Hid (CfgV w v c)) (HM : Hid (CfgM c)) (hr : rawC c = true) (h1 : 1 ≤ k) (h10 : k ≤ 10) :
    Calls Tryd.prog 20 #[v, .int .i64 (k : Int)] w (SaysB w (holdP c k)) := by
  have : k = 1 ∨ k = 2 ∨ k = 3 ∨ k = 4 ∨ k = 5 ∨ k = 6 ∨ k = 7 ∨ k = 8 ∨ k = 9 ∨ k = 10 := by omega
  rcases this with rfl | rfl | rfl | rfl | rfl | rfl | rfl | rfl | rfl | rfl
  · exact vaHolds1_any v c w HV HM hr
  · exact vaHolds2_any v c w HV HM hr
  · exact vaHolds3_any v c w HV HM hr
  · exact vaHolds4_any v c w HV HM hr
  · exact vaHolds5_any v c w HV HM hr
  · exact vaHolds6_any v c w HV HM hr
  · exact vaHolds7_any v c w HV HM hr
  · exact vaHolds8_any v c w HV HM hr
  · exact vaHolds9_any v c w HV HM hr
  · exact vaHolds10_any v c w HV HM hr
end Go.Proofs.YtfijhgggljaomaaDoor
