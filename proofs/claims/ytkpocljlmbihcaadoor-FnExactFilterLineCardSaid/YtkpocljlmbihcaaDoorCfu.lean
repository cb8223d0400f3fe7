/- The model's functions over classes: ways up, what is valid by itself. -/
import Derived.Test.YtkpocljlmbihcaaDoorCft
import Derived.Laws.BitsAllLaws
namespace Go.Proofs.YtkpocljlmbihcaaDoor
set_option maxRecDepth 100000
open Go.RowKit
set_option linter.unusedVariables false

def lenV : Value → Nat
  | .slice _ n _ => n
  | _ => 0
def UpRel (w : World) (o : Obj) (n : Nat) (cs : List Cls) (U : List Nat) (i out : Value) (wr : World) : Prop :=
  ∃ (v : Int) (ks : List Nat), i = .int .i64 v ∧ ks.length ≤ 9 ∧ Aft w o wr ∧ wr.ownsRow (w.heap.size + 1) 3 1 out ks.length (nv ks) ∧
    ((v = -1 ∧ Hid (ks = U)) ∨ ∃ k : Nat, k < n ∧ v = k ∧ Hid (ks ++ up cs (9 - ks.length) k = U))
theorem up_step (cs : List Cls) (f k : Nat) : up cs (f + 1) k = k :: (match fnd cs (cs.getD k cls0).p with | .none => [] | .some j => up cs f j) := rfl
set_option maxHeartbeats 6400000 in
theorem cfUp_any (s : ByteArray) (ac af : Option Addr) (n cc m cf : Nat) (d : Int) (cs : List Cls) (q : Nat) (w : World) (HI : Hid (InX w ac n (clsCs cs))) (hn : Hid (cs.length = n)) (hm : n ≤ 1048576) (hq : q < n) :
    Calls Tryd.prog 36 #[(.agg #[.string s, .slice ac n cc, .slice af m cf, .int .i64 d]), .int .i64 q] w (SaysNs w (up cs 9 q)) := by
  obtain ⟨i0, hi, hz0, hz1, hz2⟩ := info_parts infoI
  obtain ⟨U, hU⟩ : ∃ U, up cs 9 q = U := ⟨_, rfl⟩
  have H0 : Hid ([] ++ up cs (9 - 0) q = U) := Lib.hid hU
  rw [hU]
  have HF := Lib.hid (fun id w HI => cfFind_any s ac af n cc m cf d cs id w HI hn hm)
  clear hU
  go_enter Tryd.func36, Tryd.ntmps36
  go_wp2_with fail
  go_loopw [1, 5] (fun i out wr => UpRel w (Obj.cells #[.string s, .slice ac n cc, .slice af m cf, .int .i64 d] 44) n cs U i out wr) (fun _ out _ => 10 - lenV out)
  case atStart => exact ⟨q, [], rfl, Nat.zero_le _, Aft.refl _ _, (World.ownsRow_nil _ _ _ _ : (w.alloc (Obj.cells #[.string s, .slice ac n cc, .slice af m cf, .int .i64 d] 44)).ownsRow _ 3 1 _ 0 []), .inr ⟨q, hq, rfl, H0⟩⟩
  case round =>
    obtain ⟨v, ks, rfl, hk9, hb, ho, hv⟩ := hrel
    have HB := Lib.hid hb
    have HO := Lib.hid ho
    obtain ⟨ad, cO, rfl, _⟩ := own_in ho
    rcases hv with ⟨rfl, HX⟩ | ⟨k, hkn, rfl, HX⟩
    · clear hb ho
      go_wp2_with fail
      go_ret
      exact ⟨_, rfl, by rw [← HX.out]; exact own_base HO.out (Nat.le_succ _), HB.out.all.2⟩
    · by_cases h9 : ks.length ≤ 8
      · obtain ⟨x, hx⟩ : ∃ x, cs.getD k cls0 = x := ⟨_, rfl⟩
        have hl1 : k < cs.length := by rw [hn.out]; exact hkn
        have hU : ks ++ k :: (match fnd cs x.p with | .none => [] | .some j => up cs (8 - ks.length) j) = U := by
          have := HX.out
          rw [show 9 - ks.length = (8 - ks.length) + 1 by omega, up_step, hx] at this
          exact this
        have HFx := Lib.hid (HF.out x.p)
        have HU := Lib.hid hU
        have d8 : decide ((ks.length : Int) ≤ 8) = true := is_le (by omega)
        have d0 : decide ((0 : Int) ≤ (k : Int)) = true := is_le (by omega)
        clear hb ho hU
        go_wp2_with (at_builtin; refine wpList_append_own _ rfl _ _ 61 rfl (w.heap.size + 1) 3 i0 (.int .i64 0) 1 8 Tryd.underlying61 hi hz0 hz1 hz2 rfl (by decide) _ _ _ rfl (World.ownsRow.alloc HO.out _) ⟨wr.heap.size, 0, none⟩ 1 1 [.int .i64 (k : Int)] rfl rfl (by have := one_int wr (.int .i64 (k : Int)) 3; simpa using this) (by intro u hu; simp at hu; subst hu; rfl) (by unfold maxLen; omega) (by omega) (by have := (HB.out.all).1.2.2.2.2; simp; omega) ?_; intro v' w3 hown1 hgrow1 _; have F := Lib.hid (own_snoc rfl ((Below.refl (w.heap.size + 1) wr).alloc (HB.out.all).1.2.2.2.2 (.cells #[.int .i64 (k : Int)] 3)) hown1 (by have := (HB.out.all).1.2.2.2.2; simp; omega) hgrow1 (fun g h => (World.ownsRow.lt HO.out g h).1)); have HB3 := Lib.hid (HB.out.up F.out.2); obtain ⟨ad3, c3, hv3, _⟩ := own_in F.out.1; clear hown1 hgrow1; refine Hid.out ?_)
        refine Lib.hid ?_
        have O3 : Hid (w3.ownsRow (w.heap.size + 1) 3 1 (.slice ad3 (ks.length + 1) c3) (ks ++ [k]).length (nv (ks ++ [k]))) := Lib.hid (by rw [← show v' = .slice ad3 (ks.length + 1) c3 by simpa using hv3]; exact F.out.1)
        obtain ⟨g, rfl, ht, hg⟩ := HI.out (by omega)
        obtain ⟨_, a1, _⟩ := (ht.below HB3.out.all.2 hg).cls k hl1 x hx
        obtain ⟨e0, e1, e2, e3, hgw⟩ := HB3.out.all.1
        have hI3 : InX w3 (some ⟨g, 0, none⟩) n (clsCs cs) := HI.out.below HB3.out.all.2
        have HI3 := Lib.hid hI3
        have hgr : g < w3.heap.size := Nat.lt_of_lt_of_le hg HB3.out.all.2.size
        cases hf : fnd cs x.p with
        | none =>
          rw [fndI_none hf] at HFx
          have HY : Hid (ks ++ [k] = U) := Lib.hid (by have := HU.out; rw [hf] at this; simpa using this)
          obtain ⟨xi, xp, xr, xe, xb, xu, xo, xl⟩ := x
          simp only at a1 HFx
          clear hx hl1 hf ht hI3
          go_wp2_with fail
          go_region_with (go_at_call 58; refine (HFx.out _ (Lib.hid (HI3.out.below (below_drewN (Below.refl _ _) _)))).mono ?_; rintro e w4 ⟨rfl, b4⟩; have B4 := Lib.hid ((below_drewN (Below.refl _ w3) 1).trans b4); clear b4)
          all_goals
            (try go_simp)
            go_wp2
            go_roundw
            case rel => exact ⟨-1, ks ++ [k], rfl, by simp; omega, HB3.out.on B4.out, own_low O3.out B4.out (Nat.le_refl _), .inl ⟨rfl, HY⟩⟩
            case measure => simp [lenV]; omega
        | some j =>
          rw [fndI_some hf] at HFx
          have hjn : j < n := by rw [← hn.out]; exact (fnd_get cs x.p j hf).1
          have HY : Hid ((ks ++ [k]) ++ up cs (9 - (ks ++ [k]).length) j = U) := Lib.hid (by
            have := HU.out
            rw [hf] at this
            rw [← this, show 9 - (ks ++ [k]).length = 8 - ks.length by simp only [List.length_append, List.length_cons, List.length_nil]; omega]
            simp)
          obtain ⟨xi, xp, xr, xe, xb, xu, xo, xl⟩ := x
          simp only at a1 HFx
          clear hx hl1 hf ht hI3
          go_wp2_with fail
          go_region_with (go_at_call 58; refine (HFx.out _ (Lib.hid (HI3.out.below (below_drewN (Below.refl _ _) _)))).mono ?_; rintro e w4 ⟨rfl, b4⟩; have B4 := Lib.hid ((below_drewN (Below.refl _ w3) 1).trans b4); clear b4)
          all_goals
            (try go_simp)
            go_wp2
            go_roundw
            case rel => exact ⟨j, ks ++ [k], rfl, by simp; omega, HB3.out.on B4.out, own_low O3.out B4.out (Nat.le_refl _), .inr ⟨j, hjn, rfl, HY⟩⟩
            case measure => simp [lenV]; omega
      · have HX2 : Hid (ks = U) := Lib.hid (by have := HX.out; rw [show 9 - ks.length = 0 by omega] at this; simpa [up] using this)
        have d8 : decide ((ks.length : Int) ≤ 8) = false := not_le (by omega)
        have d0 : decide ((0 : Int) ≤ (k : Int)) = true := is_le (by omega)
        clear hb ho
        go_wp2_with fail
        go_ret
        exact ⟨_, rfl, by rw [← HX2.out]; exact own_base HO.out (Nat.le_succ _), HB.out.all.2⟩
def ClsSelf (x : Cls) : Bool := inB x.i 1 999 && rateOk x
set_option maxHeartbeats 1600000 in
theorem cfClass_any (x : Cls) (w : World) : Calls Tryd.prog 17 #[clsV x] w (SaysB w (ClsSelf x)) := by
  have HX : Hid (ClsSelf x = (inB x.i 1 999 && (inB x.r 1 100000 && (inB x.e x.r 100000 && (inB x.b 1500 1000000 && (inB x.u 1500 1000000 && inB x.o 0 7)))))) := Lib.hid rfl
  have H1 := Lib.hid (fun w => l1In_any x.i 1 999 w)
  have H2 := Lib.hid (fun w => l1In_any x.r 1 100000 w)
  have H3 := Lib.hid (fun w => l1In_any x.e x.r 100000 w)
  have H4 := Lib.hid (fun w => l1In_any x.b 1500 1000000 w)
  have H5 := Lib.hid (fun w => l1In_any x.u 1500 1000000 w)
  have H6 := Lib.hid (fun w => l1In_any x.o 0 7 w)
  generalize inB x.i 1 999 = b1 at HX H1
  generalize inB x.r 1 100000 = b2 at HX H2
  generalize inB x.e x.r 100000 = b3 at HX H3
  generalize inB x.b 1500 1000000 = b4 at HX H4
  generalize inB x.u 1500 1000000 = b5 at HX H5
  generalize inB x.o 0 7 = b6 at HX H6
  generalize ClsSelf x = B at HX ⊢
  obtain ⟨xi, xp, xr, xe, xb, xu, xo, xl⟩ := x
  unfold clsV
  simp only at H1 H2 H3 H4 H5 H6 ⊢
  go_enter Tryd.func17, Tryd.ntmps17
  go_wp2_with (first | (go_at_call 26; (with_reducible refine (H1.out _).mono ?_); rintro e w' ⟨rfl, rfl⟩) | (go_at_call 26; (with_reducible refine (H2.out _).mono ?_); rintro e w' ⟨rfl, rfl⟩) | (go_at_call 26; (with_reducible refine (H3.out _).mono ?_); rintro e w' ⟨rfl, rfl⟩) | (go_at_call 26; (with_reducible refine (H4.out _).mono ?_); rintro e w' ⟨rfl, rfl⟩) | (go_at_call 26; (with_reducible refine (H5.out _).mono ?_); rintro e w' ⟨rfl, rfl⟩) | (go_at_call 26; (with_reducible refine (H6.out _).mono ?_); rintro e w' ⟨rfl, rfl⟩))
  all_goals
    go_ret
    exact ⟨ret_bool (by rw [HX.out]; simp_all), one_new2 _ _⟩
end Go.Proofs.YtkpocljlmbihcaaDoor
