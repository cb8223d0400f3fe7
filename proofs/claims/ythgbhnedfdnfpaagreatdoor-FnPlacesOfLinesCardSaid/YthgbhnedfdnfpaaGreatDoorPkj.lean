import Derived.Test.YthgbhnedfdnfpaaGreatDoorPki
import Derived.Deep.RegionWith
import Derived.Laws.BitsAllLaws
import Derived.Test.YthgbhnedfdnfpaaGreatDoorPke
/- The model's functions over classes: leaves, rates, ways up, targets. -/
namespace Go.Proofs.YthgbhnedfdnfpaaGreatDoor
set_option maxRecDepth 100000
open Go.RowKit
set_option linter.unusedVariables false

theorem hasK_kids (cs : List Cls) (id : Int) : (((kids cs id).length : Int) == 0) = !hasK cs id := by
  have := kidsF_nil id cs 0
  unfold kids
  cases hk : hasK cs id with
  | false => rw [this.2 hk]; rfl
  | true =>
    have : kidsF id 0 cs ≠ [] := fun h => by rw [this.1 h] at hk; cases hk
    have := List.length_pos_iff.2 this
    simp; omega
set_option maxHeartbeats 1600000 in
theorem cfLeaf_any (s : ByteArray) (ac af : Option Addr) (n cc m cf : Nat) (d : Int) (cs : List Cls) (q : Nat) (w : World) (HI : Hid (InX w ac n (clsCs cs))) (hn : Hid (cs.length = n)) (hm : n ≤ 1048576) (hq : q < n) :
    Calls Tryz.prog 51 #[(.agg #[.string s, .slice ac n cc, .slice af m cf, .int .i64 d]), .int .i64 q] w (SaysB w (!hasK cs (cs.getD q cls0).i)) := by
  have HK := Lib.hid (fun w HI => cfKids_any s ac af n cc m cf d cs q w HI hn hm hq)
  have HL := Lib.hid (hasK_kids cs (cs.getD q cls0).i)
  obtain ⟨K, hK⟩ : ∃ K, kids cs (cs.getD q cls0).i = K := ⟨_, rfl⟩
  obtain ⟨b, hb⟩ : ∃ b, (!hasK cs (cs.getD q cls0).i) = b := ⟨_, rfl⟩
  rw [hK] at HK HL
  rw [hb] at HL ⊢
  clear hK hb
  go_enter Tryz.func51, Tryz.ntmps51
  go_wp2_with (go_at_call 50; refine (HK.out _ (Lib.hid (HI.out.below (one_new2 _ _)))).mono ?_; rintro e w1 ⟨v, rfl, o1, b1⟩; obtain ⟨ad, c1, rfl, _⟩ := own_in o1; have B1 := Lib.hid ((one_new2 _ _).trans (b1.mono (by simp))); clear b1 o1)
  go_ret
  exact ⟨ret_bool HL.out, B1.out⟩
set_option maxHeartbeats 1600000 in
theorem cfTarget_any (s : ByteArray) (ac af : Option Addr) (n cc m cf : Nat) (d : Int) (cs : List Cls) (id : Int) (w : World) (HI : Hid (InX w ac n (clsCs cs))) (hn : Hid (cs.length = n)) (hm : n ≤ 1048576) :
    Calls Tryz.prog 55 #[(.agg #[.string s, .slice ac n cc, .slice af m cf, .int .i64 d]), .int .i64 id] w (SaysB w (leafB cs id)) := by
  have HF := Lib.hid (fun w HI => cfFind_any s ac af n cc m cf d cs id w HI hn hm)
  cases hf : fnd cs id with
  | none =>
    rw [fndI_none hf] at HF
    have HX : Hid (leafB cs id = false) := Lib.hid (by unfold leafB; rw [hf]; rfl)
    clear hf
    go_enter Tryz.func55, Tryz.ntmps55
    go_wp2_with (go_at_call 49; refine (HF.out _ (Lib.hid (HI.out.below (one_new2 _ _)))).mono ?_; rintro e w1 ⟨rfl, b1⟩; have B1 := Lib.hid (box_four b1).2; clear b1)
    go_ret
    exact ⟨ret_bool HX.out.symm, B1.out⟩
  | some k =>
    rw [fndI_some hf] at HF
    have hk := fnd_get cs id k hf
    have hkn : k < n := by rw [← hn.out]; exact hk.1
    have HX : Hid (leafB cs id = !hasK cs (cs.getD k cls0).i) := Lib.hid (by unfold leafB; rw [hf, hk.2]; rfl)
    have HL := Lib.hid (fun w HI => cfLeaf_any s ac af n cc m cf d cs k w HI hn hm hkn)
    have d0 := is_le (show (0 : Int) ≤ (k : Int) by omega)
    obtain ⟨b, hb⟩ : ∃ b, (!hasK cs (cs.getD k cls0).i) = b := ⟨_, rfl⟩
    rw [hb] at HL HX
    clear hf hk hb
    go_enter Tryz.func55, Tryz.ntmps55
    go_wp2_with (go_at_call 49; refine (HF.out _ (Lib.hid (HI.out.below (one_new2 _ _)))).mono ?_; rintro e w1 ⟨rfl, b1⟩; have B1 := Lib.hid (box_four b1).2; obtain ⟨c0, c1, c2, c3, _⟩ := (box_four b1).1; clear b1)
    go_wp2_with (go_at_call 51; refine (HL.out _ (Lib.hid (HI.out.below B1.out))).mono ?_; rintro e w2 ⟨rfl, b2⟩; have B2 := Lib.hid (B1.out.trans (b2.mono B1.out.size)); clear b2)
    go_ret
    exact ⟨ret_bool HX.out.symm, B2.out⟩
def SpRelC (cs : List Cls) (K : List Nat) (S : Int) (a i : Value) : Prop := ∃ (k : Nat) (z : Int), k ≤ K.length ∧ i = .int .i64 k ∧ a = .int .i64 z ∧ z ≤ 100000 ∧ -(100000 * (k : Int)) ≤ z ∧ Hid (spK cs z (K.drop k) = S)
theorem spK_at (cs : List Cls) (z : Int) (K : List Nat) (k : Nat) (h : k < K.length) (j : Nat) (hj : K.getD k 0 = j) : spK cs z (K.drop k) = spK cs (z - (cs.getD j cls0).r) (K.drop (k + 1)) := by
  rw [List.drop_eq_getElem_cons h, spK]
  subst hj
  simp [List.getD_eq_getElem?_getD, h]
theorem spK_end (cs : List Cls) (z : Int) (K : List Nat) (k : Nat) (h : K.length ≤ k) : spK cs z (K.drop k) = z := by
  rw [List.drop_eq_nil_of_le h]; rfl
def RatesIn (cs : List Cls) : Prop := ∀ k, k < cs.length → 1 ≤ (cs.getD k cls0).r ∧ (cs.getD k cls0).r ≤ 100000
theorem okL_rates {cs : List Cls} {b : Int} (h : okL b cs = true) : RatesIn cs := fun k hk => rateOk_r (okL_ids cs b h k hk).2.2
theorem kids_lt (cs : List Cls) (id : Int) (k : Nat) (h : k < (kids cs id).length) : (kids cs id).getD k 0 < cs.length := by
  have := kidsF_lt id cs 0 ((kids cs id).getD k 0) (by unfold kids at *; simp [List.getD_eq_getElem?_getD, h])
  omega
set_option maxHeartbeats 3200000 in
theorem cfSpare_any (s : ByteArray) (ac af : Option Addr) (n cc m cf : Nat) (d : Int) (cs : List Cls) (q : Nat) (w : World) (HI : Hid (InX w ac n (clsCs cs))) (hn : Hid (cs.length = n)) (hm : n ≤ 1048576) (hq : q < n) (h24 : n ≤ 24) (HR : Hid (RatesIn cs)) :
    Calls Tryz.prog 82 #[(.agg #[.string s, .slice ac n cc, .slice af m cf, .int .i64 d]), .int .i64 q] w (SaysI w (spare cs (cs.getD q cls0))) := by
  have HK := Lib.hid (fun w HI => cfKids_any s ac af n cc m cf d cs q w HI hn hm hq)
  have hqn : q < cs.length := by rw [hn.out]; exact hq
  obtain ⟨y, hy⟩ : ∃ y, cs.getD q cls0 = y := ⟨_, rfl⟩
  have hyr := HR.out q hqn
  rw [hy] at HK hyr ⊢
  have HLT := Lib.hid (kids_lt cs y.i)
  have hKl : (kids cs y.i).length ≤ n := by have := kidsF_len y.i cs 0; unfold kids; rw [← hn.out]; exact this
  have H0 : Hid (spK cs y.r ((kids cs y.i).drop 0) = spare cs y) := Lib.hid (by rw [List.drop_zero]; exact spare_kids cs y)
  obtain ⟨K, hK⟩ : ∃ K, kids cs y.i = K := ⟨_, rfl⟩
  obtain ⟨S, hS⟩ : ∃ S, spare cs y = S := ⟨_, rfl⟩
  rw [hK] at HK hKl HLT H0
  rw [hS] at H0 ⊢
  obtain ⟨g, rfl, ht, hg⟩ := HI.out (by omega)
  have HT := Lib.hid ht
  obtain ⟨_, _, b2, _⟩ := ht.cls q hqn y hy
  have b2' := fun o => ((bcell (one_new2 w o)).1 g (q * 8 + 2) hg).trans b2
  obtain ⟨yi, yp, yr, ye, yb, yu, yo, yl⟩ := y
  simp only at b2' hyr H0
  clear hK hS hy ht b2
  go_enter Tryz.func82, Tryz.ntmps82
  go_wp2_with (go_at_call 50; refine (HK.out _ (Lib.hid (HI.out.below (one_new2 _ _)))).mono ?_; rintro e w1 ⟨v, rfl, o1, b1⟩; have B1 := Lib.hid (box_four b1).2; obtain ⟨c0, c1, c2, c3, _⟩ := (box_four b1).1; obtain ⟨ad, cK, rfl, iK⟩ := own_in o1; have HIK := Lib.hid iK; clear b1 o1 iK)
  go_loop [5, 18] (fun a i => SpRelC cs K S a i) (fun _ i => K.length - (intOf i).toNat)
  case atStart => exact ⟨0, yr, Nat.zero_le _, rfl, rfl, by omega, by omega, H0⟩
  case round =>
    obtain ⟨k, z, hk, rfl, rfl, z1, z2, HP⟩ := hrel
    by_cases hlt : k < K.length
    · obtain ⟨gk, rfl, hkt, hkg⟩ := HIK.out (by omega)
      obtain ⟨j, hj⟩ : ∃ j, K.getD k 0 = j := ⟨_, rfl⟩
      have e0 := hkt.nat k hlt j hj
      have hjl : j < cs.length := by rw [← hj]; exact HLT.out k hlt
      have hjn : j < n := by rw [← hn.out]; exact hjl
      obtain ⟨x, hx⟩ : ∃ x, cs.getD j cls0 = x := ⟨_, rfl⟩
      have hxr := HR.out j hjl
      rw [hx] at hxr
      obtain ⟨_, _, a2, _⟩ := (HT.out.below B1.out hg).cls j hjl x hx
      have HE := Lib.hid (spK_at cs z K k hlt j hj)
      rw [hx] at HE
      obtain ⟨xi, xp, xr, xe, xb, xu, xo, xl⟩ := x
      simp only at a2 hxr HE
      have HX : Hid (spK cs (z - xr) (K.drop (k + 1)) = S) := Lib.hid (HE.out.symm.trans HP.out)
      have k24 : (k : Int) < 24 := by omega
      clear hkt hj hx hjl
      go_wp2_with fail
      go_round
      case rel => exact ⟨k + 1, z - xr, by omega, by go_num, rfl, by omega, by omega, HX⟩
      case measure => simp [intOf]; omega
    · have HX : Hid (z = S) := Lib.hid (by rw [← HP.out, spK_end cs z K k (by omega)])
      go_wp2_with fail
      go_ret
      exact ⟨ret_int HX.out, B1.out⟩
end Go.Proofs.YthgbhnedfdnfpaaGreatDoor

/- The model's functions over classes: ways up, what is valid by itself. -/
namespace Go.Proofs.YthgbhnedfdnfpaaGreatDoor
set_option maxRecDepth 100000
open Go.RowKit
set_option linter.unusedVariables false

def lenV : Value → Nat
  | .slice _ n _ => n
  | _ => 0
def UpRel (w : World) (o : Obj) (n : Nat) (cs : List Cls) (U : List Nat) (i out : Value) (wr : World) : Prop :=
  ∃ (v : Int) (ks : List Nat), i = .int .i64 v ∧ ks.length ≤ 9 ∧ Aft w o wr ∧ wr.ownsRow (w.heap.size + 1) 3 1 out ks.length (nv ks) ∧
    ((v = -1 ∧ Hid (ks = U)) ∨ ∃ k : Nat, k < n ∧ v = k ∧ Hid (ks ++ up cs (9 - ks.length) k = U))
theorem up_step (cs : List Cls) (f k : Nat) : up cs (f + 1) k = k :: (match fnd cs (cs.getD k cls0).p with | .none => [] | .some j => up cs f j) := rfl
set_option maxHeartbeats 6400000 in
theorem cfUp_any (s : ByteArray) (ac af : Option Addr) (n cc m cf : Nat) (d : Int) (cs : List Cls) (q : Nat) (w : World) (HI : Hid (InX w ac n (clsCs cs))) (hn : Hid (cs.length = n)) (hm : n ≤ 1048576) (hq : q < n) :
    Calls Tryz.prog 32 #[(.agg #[.string s, .slice ac n cc, .slice af m cf, .int .i64 d]), .int .i64 q] w (SaysNs w (up cs 9 q)) := by
  obtain ⟨i0, hi, hz0, hz1, hz2⟩ := info_parts infoI
  obtain ⟨U, hU⟩ : ∃ U, up cs 9 q = U := ⟨_, rfl⟩
  have H0 : Hid ([] ++ up cs (9 - 0) q = U) := Lib.hid hU
  rw [hU]
  have HF := Lib.hid (fun id w HI => cfFind_any s ac af n cc m cf d cs id w HI hn hm)
  clear hU
  go_enter Tryz.func32, Tryz.ntmps32
  go_wp2_with fail
  go_loopw [1, 5] (fun i out wr => UpRel w (Obj.cells #[.string s, .slice ac n cc, .slice af m cf, .int .i64 d] 26) n cs U i out wr) (fun _ out _ => 10 - lenV out)
  case atStart => exact ⟨q, [], rfl, Nat.zero_le _, Aft.refl _ _, (World.ownsRow_nil _ _ _ _ : (w.alloc (Obj.cells #[.string s, .slice ac n cc, .slice af m cf, .int .i64 d] 26)).ownsRow _ 3 1 _ 0 []), .inr ⟨q, hq, rfl, H0⟩⟩
  case round =>
    obtain ⟨v, ks, rfl, hk9, hb, ho, hv⟩ := hrel
    have HB := Lib.hid hb
    have HO := Lib.hid ho
    obtain ⟨ad, cO, rfl, _⟩ := own_in ho
    rcases hv with ⟨rfl, HX⟩ | ⟨k, hkn, rfl, HX⟩
    · clear hb ho
      go_wp2_with fail
      go_ret
      exact ⟨_, rfl, by rw [← HX.out]; exact own_base HO.out (Nat.le_succ _), HB.out.all.2⟩
    · by_cases h9 : ks.length ≤ 8
      · obtain ⟨x, hx⟩ : ∃ x, cs.getD k cls0 = x := ⟨_, rfl⟩
        have hl1 : k < cs.length := by rw [hn.out]; exact hkn
        have hU : ks ++ k :: (match fnd cs x.p with | .none => [] | .some j => up cs (8 - ks.length) j) = U := by
          have := HX.out
          rw [show 9 - ks.length = (8 - ks.length) + 1 by omega, up_step, hx] at this
          exact this
        have HFx := Lib.hid (HF.out x.p)
        have HU := Lib.hid hU
        have d8 : decide ((ks.length : Int) ≤ 8) = true := is_le (by omega)
        have d0 : decide ((0 : Int) ≤ (k : Int)) = true := is_le (by omega)
        clear hb ho hU
        go_wp2_with (at_builtin; refine wpList_append_own _ rfl _ _ 33 rfl (w.heap.size + 1) 3 i0 (.int .i64 0) 1 8 Tryz.underlying33 hi hz0 hz1 hz2 rfl (by decide) _ _ _ rfl (World.ownsRow.alloc HO.out _) ⟨wr.heap.size, 0, none⟩ 1 1 [.int .i64 (k : Int)] rfl rfl (by have := one_int wr (.int .i64 (k : Int)) 3; simpa using this) (by intro u hu; simp at hu; subst hu; rfl) (by unfold maxLen; omega) (by omega) (by have := (HB.out.all).1.2.2.2.2; simp; omega) ?_; intro v' w3 hown1 hgrow1 _; have F := Lib.hid (own_snoc rfl ((Below.refl (w.heap.size + 1) wr).alloc (HB.out.all).1.2.2.2.2 (.cells #[.int .i64 (k : Int)] 3)) hown1 (by have := (HB.out.all).1.2.2.2.2; simp; omega) hgrow1 (fun g h => (World.ownsRow.lt HO.out g h).1)); have HB3 := Lib.hid (HB.out.up F.out.2); obtain ⟨ad3, c3, hv3, _⟩ := own_in F.out.1; clear hown1 hgrow1; refine Hid.out ?_)
        refine Lib.hid ?_
        have O3 : Hid (w3.ownsRow (w.heap.size + 1) 3 1 (.slice ad3 (ks.length + 1) c3) (ks ++ [k]).length (nv (ks ++ [k]))) := Lib.hid (by rw [← show v' = .slice ad3 (ks.length + 1) c3 by simpa using hv3]; exact F.out.1)
        obtain ⟨g, rfl, ht, hg⟩ := HI.out (by omega)
        obtain ⟨_, a1, _⟩ := (ht.below HB3.out.all.2 hg).cls k hl1 x hx
        obtain ⟨e0, e1, e2, e3, hgw⟩ := HB3.out.all.1
        have hI3 : InX w3 (some ⟨g, 0, none⟩) n (clsCs cs) := HI.out.below HB3.out.all.2
        have HI3 := Lib.hid hI3
        have hgr : g < w3.heap.size := Nat.lt_of_lt_of_le hg HB3.out.all.2.size
        cases hf : fnd cs x.p with
        | none =>
          rw [fndI_none hf] at HFx
          have HY : Hid (ks ++ [k] = U) := Lib.hid (by have := HU.out; rw [hf] at this; simpa using this)
          obtain ⟨xi, xp, xr, xe, xb, xu, xo, xl⟩ := x
          simp only at a1 HFx
          clear hx hl1 hf ht hI3
          go_wp2_with fail
          go_region_with (go_at_call 49; refine (HFx.out _ (Lib.hid (HI3.out.below (below_drewN (Below.refl _ _) _)))).mono ?_; rintro e w4 ⟨rfl, b4⟩; have B4 := Lib.hid ((below_drewN (Below.refl _ w3) 1).trans b4); clear b4)
          all_goals
            (try go_simp)
            go_wp2
            go_roundw
            case rel => exact ⟨-1, ks ++ [k], rfl, by simp; omega, HB3.out.on B4.out, own_low O3.out B4.out (Nat.le_refl _), .inl ⟨rfl, HY⟩⟩
            case measure => simp [lenV]; omega
        | some j =>
          rw [fndI_some hf] at HFx
          have hjn : j < n := by rw [← hn.out]; exact (fnd_get cs x.p j hf).1
          have HY : Hid ((ks ++ [k]) ++ up cs (9 - (ks ++ [k]).length) j = U) := Lib.hid (by
            have := HU.out
            rw [hf] at this
            rw [← this, show 9 - (ks ++ [k]).length = 8 - ks.length by simp only [List.length_append, List.length_cons, List.length_nil]; omega]
            simp)
          obtain ⟨xi, xp, xr, xe, xb, xu, xo, xl⟩ := x
          simp only at a1 HFx
          clear hx hl1 hf ht hI3
          go_wp2_with fail
          go_region_with (go_at_call 49; refine (HFx.out _ (Lib.hid (HI3.out.below (below_drewN (Below.refl _ _) _)))).mono ?_; rintro e w4 ⟨rfl, b4⟩; have B4 := Lib.hid ((below_drewN (Below.refl _ w3) 1).trans b4); clear b4)
          all_goals
            (try go_simp)
            go_wp2
            go_roundw
            case rel => exact ⟨j, ks ++ [k], rfl, by simp; omega, HB3.out.on B4.out, own_low O3.out B4.out (Nat.le_refl _), .inr ⟨j, hjn, rfl, HY⟩⟩
            case measure => simp [lenV]; omega
      · have HX2 : Hid (ks = U) := Lib.hid (by have := HX.out; rw [show 9 - ks.length = 0 by omega] at this; simpa [up] using this)
        have d8 : decide ((ks.length : Int) ≤ 8) = false := not_le (by omega)
        have d0 : decide ((0 : Int) ≤ (k : Int)) = true := is_le (by omega)
        clear hb ho
        go_wp2_with fail
        go_ret
        exact ⟨_, rfl, by rw [← HX2.out]; exact own_base HO.out (Nat.le_succ _), HB.out.all.2⟩
def ClsSelf (x : Cls) : Bool := inB x.i 1 999 && rateOk x
set_option maxHeartbeats 1600000 in
theorem cfClass_any (x : Cls) (w : World) : Calls Tryz.prog 81 #[clsV x] w (SaysB w (ClsSelf x)) := by
  have HX : Hid (ClsSelf x = (inB x.i 1 999 && (inB x.r 1 100000 && (inB x.e x.r 100000 && (inB x.b 1500 1000000 && (inB x.u 1500 1000000 && inB x.o 0 7)))))) := Lib.hid rfl
  have H1 := Lib.hid (fun w => l1In_any x.i 1 999 w)
  have H2 := Lib.hid (fun w => l1In_any x.r 1 100000 w)
  have H3 := Lib.hid (fun w => l1In_any x.e x.r 100000 w)
  have H4 := Lib.hid (fun w => l1In_any x.b 1500 1000000 w)
  have H5 := Lib.hid (fun w => l1In_any x.u 1500 1000000 w)
  have H6 := Lib.hid (fun w => l1In_any x.o 0 7 w)
  generalize inB x.i 1 999 = b1 at HX H1
  generalize inB x.r 1 100000 = b2 at HX H2
  generalize inB x.e x.r 100000 = b3 at HX H3
  generalize inB x.b 1500 1000000 = b4 at HX H4
  generalize inB x.u 1500 1000000 = b5 at HX H5
  generalize inB x.o 0 7 = b6 at HX H6
  generalize ClsSelf x = B at HX ⊢
  obtain ⟨xi, xp, xr, xe, xb, xu, xo, xl⟩ := x
  unfold clsV
  simp only at H1 H2 H3 H4 H5 H6 ⊢
  go_enter Tryz.func81, Tryz.ntmps81
  go_wp2_with (first | (go_at_call 48; (with_reducible refine (H1.out _).mono ?_); rintro e w' ⟨rfl, rfl⟩) | (go_at_call 48; (with_reducible refine (H2.out _).mono ?_); rintro e w' ⟨rfl, rfl⟩) | (go_at_call 48; (with_reducible refine (H3.out _).mono ?_); rintro e w' ⟨rfl, rfl⟩) | (go_at_call 48; (with_reducible refine (H4.out _).mono ?_); rintro e w' ⟨rfl, rfl⟩) | (go_at_call 48; (with_reducible refine (H5.out _).mono ?_); rintro e w' ⟨rfl, rfl⟩) | (go_at_call 48; (with_reducible refine (H6.out _).mono ?_); rintro e w' ⟨rfl, rfl⟩))
  all_goals
    go_ret
    exact ⟨ret_bool (by rw [HX.out]; simp_all), one_new2 _ _⟩
end Go.Proofs.YthgbhnedfdnfpaaGreatDoor

/- The model's checks of single filters; bits of a mask; boxes of classes and filters. -/
namespace Go
set_option maxRecDepth 100000
theorem cfb_ofInt (a : Nat) (ha : a < 65536) : (BitVec.ofInt 64 (a : Int)).toNat = a := by
  rw [BitVec.ofInt_natCast, BitVec.toNat_ofNat]; exact Nat.mod_eq_of_lt (by omega)
theorem cfb_small (n : Nat) (h : n < 65536) : IntKind.i64.wrap (n : Int) = (n : Int) := by
  simp [IntKind.wrap, IntKind.bits, IntKind.signed]; omega
theorem cfb_and (v m : Nat) (hv : v < 65536) (hm : m < 65536) : bits .and .i64 (v : Int) (m : Int) = ((v &&& m : Nat) : Int) := by
  have hx : v &&& m ≤ v := Nat.and_le_left
  show IntKind.i64.wrap ((BitVec.ofInt 64 (v : Int) &&& BitVec.ofInt 64 (m : Int)).toNat : Int) = _
  rw [BitVec.toNat_and, cfb_ofInt v hv, cfb_ofInt m hm, cfb_small _ (by omega)]
theorem cfb_bv (x y : BitVec 64) : (x &&& ~~~y = 0#64) ↔ x &&& y = x := by
  constructor
  · intro h
    ext i hi
    have := congrArg (fun z => z.getLsbD i) h
    simp at this ⊢
    cases hx : x.getLsbD i <;> cases hy : y.getLsbD i <;> simp_all
  · intro h
    ext i hi
    have := congrArg (fun z => z.getLsbD i) h
    simp at this ⊢
    cases hx : x.getLsbD i <;> cases hy : y.getLsbD i <;> simp_all
theorem cfb_andNot (v m : Nat) (hv : v < 65536) (hm : m < 65536) : (bits .andNot .i64 (v : Int) (m : Int) == 0) = decide (v &&& m = v) := by
  show (IntKind.i64.wrap ((BitVec.ofInt 64 (v : Int) &&& ~~~BitVec.ofInt 64 (m : Int)).toNat : Int) == 0) = _
  have hx : (BitVec.ofInt 64 (v : Int) &&& ~~~BitVec.ofInt 64 (m : Int)).toNat ≤ v := by
    rw [BitVec.toNat_and, cfb_ofInt v hv]; exact Nat.and_le_left
  rw [cfb_small _ (by omega)]
  apply Bool.eq_iff_iff.2
  rw [beq_iff_eq, decide_eq_true_iff]
  have h1 : ((BitVec.ofInt 64 (v : Int) &&& ~~~BitVec.ofInt 64 (m : Int)).toNat : Int) = 0 ↔ (BitVec.ofInt 64 (v : Int) &&& ~~~BitVec.ofInt 64 (m : Int)) = 0#64 := by
    rw [show ((0 : Int)) = ((0 : Nat) : Int) from rfl, Int.ofNat_inj]
    constructor
    · intro h; apply BitVec.eq_of_toNat_eq; rw [h]; rfl
    · intro h; rw [h]; rfl
  rw [h1, cfb_bv, BitVec.toNat_eq, BitVec.toNat_and, cfb_ofInt v hv, cfb_ofInt m hm]
end Go
namespace Go.Proofs.YthgbhnedfdnfpaaGreatDoor
open Go.RowKit
set_option linter.unusedVariables false

theorem and_bits {v m : Int} (h : 0 ≤ v ∧ v ≤ 65535) (k : 0 ≤ m ∧ m ≤ 65535) : (bits .and .i64 v m == v) = bitB v m := by
  obtain ⟨a, rfl⟩ := Int.eq_ofNat_of_zero_le h.1
  obtain ⟨b, rfl⟩ := Int.eq_ofNat_of_zero_le k.1
  rw [cfb_and a b (by omega) (by omega)]
  unfold bitB
  apply Bool.eq_iff_iff.2
  rw [beq_iff_eq, decide_eq_true_iff, Int.toNat_natCast, Int.toNat_natCast]
  omega
theorem andNot_bits {v m : Int} (h : 0 ≤ v ∧ v ≤ 65535) (k : 0 ≤ m ∧ m ≤ 65535) : (bits .andNot .i64 v m == 0) = bitB v m := by
  obtain ⟨a, rfl⟩ := Int.eq_ofNat_of_zero_le h.1
  obtain ⟨b, rfl⟩ := Int.eq_ofNat_of_zero_le k.1
  rw [cfb_andNot a b (by omega) (by omega)]
  unfold bitB
  rw [Int.toNat_natCast, Int.toNat_natCast]
def FltSelf (x : Flt) : Bool := inB x.o 1 99 && patOk x
theorem flt_self (x : Flt) (b : Int) (hb : 0 ≤ b) (h : FltSelf x = false) : (decide (b < x.o) && (decide (x.o ≤ 99) && patOk x)) = false := by
  unfold FltSelf at h
  rcases inBR_cases x.o 1 99 with ⟨a, c, e⟩ | ⟨a, e⟩ | ⟨a, c, e⟩
  · rw [e, Bool.true_and] at h; rw [h]; simp
  · rw [not_lt (show x.o ≤ b by omega)]; rfl
  · rw [not_le c]; simp
theorem flt_self_t (x : Flt) (b : Int) (h : FltSelf x = true) : 0 < x.o ∧ (decide (b < x.o) && (decide (x.o ≤ 99) && patOk x)) = decide (b < x.o) := by
  unfold FltSelf at h
  rw [Bool.and_eq_true] at h
  have := inBR_iff.1 h.1
  rw [h.2, is_le this.2]
  exact ⟨by omega, by simp⟩
theorem cls_self (x : Cls) (b : Int) (hb : 0 ≤ b) (h : ClsSelf x = false) : (decide (b < x.i) && (decide (x.i ≤ 999) && rateOk x)) = false := by
  unfold ClsSelf at h
  rcases inBR_cases x.i 1 999 with ⟨a, c, e⟩ | ⟨a, e⟩ | ⟨a, c, e⟩
  · rw [e, Bool.true_and] at h; rw [h]; simp
  · rw [not_lt (show x.i ≤ b by omega)]; rfl
  · rw [not_le c]; simp
theorem cls_self_t (x : Cls) (b : Int) (h : ClsSelf x = true) : 0 < x.i ∧ (decide (b < x.i) && (decide (x.i ≤ 999) && rateOk x)) = decide (b < x.i) := by
  unfold ClsSelf at h
  rw [Bool.and_eq_true] at h
  have := inBR_iff.1 h.1
  rw [h.2, is_le this.2]
  exact ⟨by omega, by simp⟩
theorem box_at {w w1 : World} {a : Array Value} {t : TypeId} (b : Below (w.alloc (.cells a t)).heap.size (w.alloc (.cells a t)) w1) (k : Nat) (v : Value) (hv : a[k]? = some v) : w1.cell? ⟨w.heap.size, k, none⟩ = some v := by
  rw [(bcell b).1 w.heap.size k (by simp)]
  simp [go_sem, hv]
def EightB (w : World) (g : Nat) (x : Cls) : Prop := w.cell? ⟨g, 0, none⟩ = some (.int .i64 x.i) ∧ w.cell? ⟨g, 1, none⟩ = some (.int .i64 x.p) ∧ w.cell? ⟨g, 2, none⟩ = some (.int .i64 x.r) ∧ w.cell? ⟨g, 3, none⟩ = some (.int .i64 x.e) ∧
  w.cell? ⟨g, 4, none⟩ = some (.int .i64 x.b) ∧ w.cell? ⟨g, 5, none⟩ = some (.int .i64 x.u) ∧ w.cell? ⟨g, 6, none⟩ = some (.int .i64 x.o) ∧ w.cell? ⟨g, 7, none⟩ = some (.int .i64 x.l)
theorem box_eight {w w1 : World} {xi xp xr xe xb xu xo xl : Int} {t : TypeId} (b : Below (w.alloc (.cells #[.int .i64 xi, .int .i64 xp, .int .i64 xr, .int .i64 xe, .int .i64 xb, .int .i64 xu, .int .i64 xo, .int .i64 xl] t)).heap.size (w.alloc (.cells #[.int .i64 xi, .int .i64 xp, .int .i64 xr, .int .i64 xe, .int .i64 xb, .int .i64 xu, .int .i64 xo, .int .i64 xl] t)) w1) :
    EightB w1 w.heap.size ⟨xi, xp, xr, xe, xb, xu, xo, xl⟩ ∧ Below w.heap.size w w1 :=
  ⟨⟨box_at b 0 _ rfl, box_at b 1 _ rfl, box_at b 2 _ rfl, box_at b 3 _ rfl, box_at b 4 _ rfl, box_at b 5 _ rfl, box_at b 6 _ rfl, box_at b 7 _ rfl⟩, (one_new2 w _).trans (b.mono (by simp))⟩
def FiveB (w : World) (g : Nat) (x : Flt) : Prop := w.cell? ⟨g, 0, none⟩ = some (.int .i64 x.o) ∧ w.cell? ⟨g, 1, none⟩ = some (.int .i64 x.f) ∧ w.cell? ⟨g, 2, none⟩ = some (.int .i64 x.m) ∧ w.cell? ⟨g, 3, none⟩ = some (.int .i64 x.v) ∧ w.cell? ⟨g, 4, none⟩ = some (.int .i64 x.t)
theorem box_five {w w1 : World} {xo xf xm xv xt : Int} {t : TypeId} (b : Below (w.alloc (.cells #[.int .i64 xo, .int .i64 xf, .int .i64 xm, .int .i64 xv, .int .i64 xt] t)).heap.size (w.alloc (.cells #[.int .i64 xo, .int .i64 xf, .int .i64 xm, .int .i64 xv, .int .i64 xt] t)) w1) :
    FiveB w1 w.heap.size ⟨xo, xf, xm, xv, xt⟩ ∧ Below w.heap.size w w1 :=
  ⟨⟨box_at b 0 _ rfl, box_at b 1 _ rfl, box_at b 2 _ rfl, box_at b 3 _ rfl, box_at b 4 _ rfl⟩, (one_new2 w _).trans (b.mono (by simp))⟩
set_option maxHeartbeats 1600000 in
theorem cfFilter_any (x : Flt) (w : World) : Calls Tryz.prog 83 #[fltV x] w (SaysB w (FltSelf x)) := by
  obtain ⟨b7, d7⟩ : ∃ b, (bits .and .i64 x.v x.m == x.v) = b := ⟨_, rfl⟩
  have HX : Hid (FltSelf x = (inB x.o 1 99 && (inB x.f 0 3 && (inB x.m 0 65535 && (inB x.v 0 65535 && b7))))) := Lib.hid (by
    unfold FltSelf patOk
    cases hm : inB x.m 0 65535
    · rfl
    cases hv : inB x.v 0 65535
    · rfl
    rw [← d7, and_bits (inBR_iff.1 hv) (inBR_iff.1 hm)])
  have H1 := Lib.hid (fun w => l1In_any x.o 1 99 w)
  have H2 := Lib.hid (fun w => l1In_any x.f 0 3 w)
  have H3 := Lib.hid (fun w => l1In_any x.m 0 65535 w)
  have H4 := Lib.hid (fun w => l1In_any x.v 0 65535 w)
  generalize inB x.o 1 99 = b1 at HX H1
  generalize inB x.f 0 3 = b2 at HX H2
  generalize inB x.m 0 65535 = b3 at HX H3
  generalize inB x.v 0 65535 = b4 at HX H4
  generalize FltSelf x = B at HX ⊢
  obtain ⟨xo, xf, xm, xv, xt⟩ := x
  unfold fltV
  simp only at d7 H1 H2 H3 H4 ⊢
  go_enter Tryz.func83, Tryz.ntmps83
  go_wp2_with (first | (go_at_call 48; (with_reducible refine (H1.out _).mono ?_); rintro e w' ⟨rfl, rfl⟩) | (go_at_call 48; (with_reducible refine (H2.out _).mono ?_); rintro e w' ⟨rfl, rfl⟩) | (go_at_call 48; (with_reducible refine (H3.out _).mono ?_); rintro e w' ⟨rfl, rfl⟩) | (go_at_call 48; (with_reducible refine (H4.out _).mono ?_); rintro e w' ⟨rfl, rfl⟩))
  all_goals
    go_ret
    exact ⟨ret_bool (by rw [HX.out]; simp_all), one_new2 _ _⟩
end Go.Proofs.YthgbhnedfdnfpaaGreatDoor

/- Hexadecimal texts of values: contracts of HexText, program and model. -/
namespace Go.Proofs.YthgbhnedfdnfpaaGreatDoor
set_option maxRecDepth 100000
open Go.RowKit

def trueOf : Value → Nat
  | .bool true => 1
  | _ => 0
def HxRel (n : Nat) (x s b : Value) : Prop := ∃ (m : Nat) (l : List Int), x = .int .i64 m ∧ s = .string (strOfNums l) ∧ m ≤ n ∧
  ((b = .bool true ∧ Hid (hexN m ++ l = hexN n)) ∨ (b = .bool false ∧ Hid (l = hexN n)))

set_option maxHeartbeats 1600000 in
theorem nuHex_any (n : Nat) (w : World) (hn : (n : Int) ≤ 65535) :
    Calls Tryz.prog 99 #[.int .i64 n] w fun e w' => e = .returned (.string (hexStr n)) ∧ w = w' := by
  have hN := hexN_length n
  go_enter Tryz.func99, Tryz.ntmps99
  go_wp2
  go_loop [0, 3, 4] (fun x s b => HxRel n x s b) (fun x _ b => 2 * (intOf x).toNat + trueOf b)
  case atStart => exact ⟨n, [], rfl, rfl, Nat.le_refl _, .inl ⟨rfl, by unfold Hid; simp⟩⟩
  case round =>
    obtain ⟨m, l, rfl, rfl, hm, hb⟩ := hrel
    rcases hb with ⟨rfl, HP⟩ | ⟨rfl, HP⟩
    · have hz : (strOfNums l).size ≤ 65536 := by
        rw [strOfNums_size]
        have := congrArg List.length HP.out
        simp at this
        omega
      clear hN
      rcases Nat.lt_or_ge m 16 with hlt | hge
      · have hs := sl16 w m hlt
        have hz1 : (strOfNums [hdI (m : Int)]).size ≤ 1 := by rw [strOfNums_size]; simp
        have e1 : (m : Int) % 16 = m := by omega
        have e2 : (m : Int) / 16 = 0 := by omega
        go_wp2
        go_round
        case rel => exact ⟨0, [hdI (m : Int)] ++ l, by go_num, by rw [strOfNums_append], Nat.zero_le _, .inr ⟨rfl, by unfold Hid; rw [← HP.out, hexN_small m hlt]⟩⟩
        case measure => simp [intOf, trueOf]
      · have hs : (Instr.slice 9 (.string ⟨#[48, 49, 50, 51, 52, 53, 54, 55, 56, 57, 97, 98, 99, 100, 101, 102]⟩) (some (.int .i64 ((m : Int) % 16))) (some (.int .i64 ((m : Int) % 16 + 1))) none).run Tryz.prog w = .ok (.string (strOfNums [hdI ((m : Int) % 16)])) w := sl16 w (m % 16) (Nat.mod_lt _ (by omega))
        have hz1 : (strOfNums [hdI ((m : Int) % 16)]).size ≤ 1 := by rw [strOfNums_size]; simp
        have e2 : decide ((0 : Int) < (m : Int) / 16) = true := by simp; omega
        go_wp2
        go_round
        case rel => exact ⟨m / 16, [hdI ((m : Int) % 16)] ++ l, by go_num, by rw [strOfNums_append], by omega, .inl ⟨rfl, by unfold Hid; rw [← HP.out, hexN_big m hge, List.append_assoc]⟩⟩
        case measure => simp [intOf, trueOf]; omega
    · have hz : (strOfNums l).size ≤ 65536 := by
        rw [strOfNums_size]
        have := congrArg List.length HP.out
        omega
      clear hN
      go_wp2
      go_ret
      refine ⟨str_ret ?_, rfl⟩
      have e : (⟨#[48, 120]⟩ : ByteArray) = strOfNums [48, 120] := rfl
      rw [e, strOfNums_append, hexStr, ← HP.out]
      rfl

theorem implHexText_of (n : Int) (w : World) (h : n ≤ 65535) (s : ByteArray) (b : Bool) (hc : Hid (Calls Tryz.prog 123 #[.int .i64 n] w (SaysStrB w s b))) :
    Calls Tryz.prog 107 #[.int .i64 n] w (SaysStrB w s b) := by
  have d := not_lt h
  go_enter Tryz.func107, Tryz.ntmps107
  go_wp2_with (go_at_call 123; refine hc.out.mono ?_; rintro e w1 ⟨rfl, b1⟩; have B1 := Lib.hid b1; clear b1)
  go_ret2
  exact ⟨rfl, B1.out⟩

end Go.Proofs.YthgbhnedfdnfpaaGreatDoor
