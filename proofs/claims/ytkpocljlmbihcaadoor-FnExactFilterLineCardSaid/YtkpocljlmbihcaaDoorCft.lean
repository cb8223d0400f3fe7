/- The model's functions over classes: leaves, rates, ways up, targets. -/
import Derived.Test.YtkpocljlmbihcaaDoorCfs
import Derived.Deep.RegionWith
namespace Go.Proofs.YtkpocljlmbihcaaDoor
set_option maxRecDepth 100000
open Go.RowKit
set_option linter.unusedVariables false

theorem hasK_kids (cs : List Cls) (id : Int) : (((kids cs id).length : Int) == 0) = !hasK cs id := by
  have := kidsF_nil id cs 0
  unfold kids
  cases hk : hasK cs id with
  | false => rw [this.2 hk]; rfl
  | true =>
    have : kidsF id 0 cs ≠ [] := fun h => by rw [this.1 h] at hk; cases hk
    have := List.length_pos_iff.2 this
    simp; omega
set_option maxHeartbeats 1600000 in
theorem cfLeaf_any (s : ByteArray) (ac af : Option Addr) (n cc m cf : Nat) (d : Int) (cs : List Cls) (q : Nat) (w : World) (HI : Hid (InX w ac n (clsCs cs))) (hn : Hid (cs.length = n)) (hm : n ≤ 1048576) (hq : q < n) :
    Calls Tryd.prog 78 #[(.agg #[.string s, .slice ac n cc, .slice af m cf, .int .i64 d]), .int .i64 q] w (SaysB w (!hasK cs (cs.getD q cls0).i)) := by
  have HK := Lib.hid (fun w HI => cfKids_any s ac af n cc m cf d cs q w HI hn hm hq)
  have HL := Lib.hid (hasK_kids cs (cs.getD q cls0).i)
  obtain ⟨K, hK⟩ : ∃ K, kids cs (cs.getD q cls0).i = K := ⟨_, rfl⟩
  obtain ⟨b, hb⟩ : ∃ b, (!hasK cs (cs.getD q cls0).i) = b := ⟨_, rfl⟩
  rw [hK] at HK HL
  rw [hb] at HL ⊢
  clear hK hb
  go_enter Tryd.func78, Tryd.ntmps78
  go_wp2_with (go_at_call 57; refine (HK.out _ (Lib.hid (HI.out.below (one_new2 _ _)))).mono ?_; rintro e w1 ⟨v, rfl, o1, b1⟩; obtain ⟨ad, c1, rfl, _⟩ := own_in o1; have B1 := Lib.hid ((one_new2 _ _).trans (b1.mono (by simp))); clear b1 o1)
  go_ret
  exact ⟨ret_bool HL.out, B1.out⟩
set_option maxHeartbeats 1600000 in
theorem cfTarget_any (s : ByteArray) (ac af : Option Addr) (n cc m cf : Nat) (d : Int) (cs : List Cls) (id : Int) (w : World) (HI : Hid (InX w ac n (clsCs cs))) (hn : Hid (cs.length = n)) (hm : n ≤ 1048576) :
    Calls Tryd.prog 56 #[(.agg #[.string s, .slice ac n cc, .slice af m cf, .int .i64 d]), .int .i64 id] w (SaysB w (leafB cs id)) := by
  have HF := Lib.hid (fun w HI => cfFind_any s ac af n cc m cf d cs id w HI hn hm)
  cases hf : fnd cs id with
  | none =>
    rw [fndI_none hf] at HF
    have HX : Hid (leafB cs id = false) := Lib.hid (by unfold leafB; rw [hf]; rfl)
    clear hf
    go_enter Tryd.func56, Tryd.ntmps56
    go_wp2_with (go_at_call 58; refine (HF.out _ (Lib.hid (HI.out.below (one_new2 _ _)))).mono ?_; rintro e w1 ⟨rfl, b1⟩; have B1 := Lib.hid (box_four b1).2; clear b1)
    go_ret
    exact ⟨ret_bool HX.out.symm, B1.out⟩
  | some k =>
    rw [fndI_some hf] at HF
    have hk := fnd_get cs id k hf
    have hkn : k < n := by rw [← hn.out]; exact hk.1
    have HX : Hid (leafB cs id = !hasK cs (cs.getD k cls0).i) := Lib.hid (by unfold leafB; rw [hf, hk.2]; rfl)
    have HL := Lib.hid (fun w HI => cfLeaf_any s ac af n cc m cf d cs k w HI hn hm hkn)
    have d0 := is_le (show (0 : Int) ≤ (k : Int) by omega)
    obtain ⟨b, hb⟩ : ∃ b, (!hasK cs (cs.getD k cls0).i) = b := ⟨_, rfl⟩
    rw [hb] at HL HX
    clear hf hk hb
    go_enter Tryd.func56, Tryd.ntmps56
    go_wp2_with (go_at_call 58; refine (HF.out _ (Lib.hid (HI.out.below (one_new2 _ _)))).mono ?_; rintro e w1 ⟨rfl, b1⟩; have B1 := Lib.hid (box_four b1).2; obtain ⟨c0, c1, c2, c3, _⟩ := (box_four b1).1; clear b1)
    go_wp2_with (go_at_call 78; refine (HL.out _ (Lib.hid (HI.out.below B1.out))).mono ?_; rintro e w2 ⟨rfl, b2⟩; have B2 := Lib.hid (B1.out.trans (b2.mono B1.out.size)); clear b2)
    go_ret
    exact ⟨ret_bool HX.out.symm, B2.out⟩
def SpRelC (cs : List Cls) (K : List Nat) (S : Int) (a i : Value) : Prop := ∃ (k : Nat) (z : Int), k ≤ K.length ∧ i = .int .i64 k ∧ a = .int .i64 z ∧ z ≤ 100000 ∧ -(100000 * (k : Int)) ≤ z ∧ Hid (spK cs z (K.drop k) = S)
theorem spK_at (cs : List Cls) (z : Int) (K : List Nat) (k : Nat) (h : k < K.length) (j : Nat) (hj : K.getD k 0 = j) : spK cs z (K.drop k) = spK cs (z - (cs.getD j cls0).r) (K.drop (k + 1)) := by
  rw [List.drop_eq_getElem_cons h, spK]
  subst hj
  simp [List.getD_eq_getElem?_getD, h]
theorem spK_end (cs : List Cls) (z : Int) (K : List Nat) (k : Nat) (h : K.length ≤ k) : spK cs z (K.drop k) = z := by
  rw [List.drop_eq_nil_of_le h]; rfl
def RatesIn (cs : List Cls) : Prop := ∀ k, k < cs.length → 1 ≤ (cs.getD k cls0).r ∧ (cs.getD k cls0).r ≤ 100000
theorem okL_rates {cs : List Cls} {b : Int} (h : okL b cs = true) : RatesIn cs := fun k hk => rateOk_r (okL_ids cs b h k hk).2.2
theorem kids_lt (cs : List Cls) (id : Int) (k : Nat) (h : k < (kids cs id).length) : (kids cs id).getD k 0 < cs.length := by
  have := kidsF_lt id cs 0 ((kids cs id).getD k 0) (by unfold kids at *; simp [List.getD_eq_getElem?_getD, h])
  omega
set_option maxHeartbeats 3200000 in
theorem cfSpare_any (s : ByteArray) (ac af : Option Addr) (n cc m cf : Nat) (d : Int) (cs : List Cls) (q : Nat) (w : World) (HI : Hid (InX w ac n (clsCs cs))) (hn : Hid (cs.length = n)) (hm : n ≤ 1048576) (hq : q < n) (h24 : n ≤ 24) (HR : Hid (RatesIn cs)) :
    Calls Tryd.prog 77 #[(.agg #[.string s, .slice ac n cc, .slice af m cf, .int .i64 d]), .int .i64 q] w (SaysI w (spare cs (cs.getD q cls0))) := by
  have HK := Lib.hid (fun w HI => cfKids_any s ac af n cc m cf d cs q w HI hn hm hq)
  have hqn : q < cs.length := by rw [hn.out]; exact hq
  obtain ⟨y, hy⟩ : ∃ y, cs.getD q cls0 = y := ⟨_, rfl⟩
  have hyr := HR.out q hqn
  rw [hy] at HK hyr ⊢
  have HLT := Lib.hid (kids_lt cs y.i)
  have hKl : (kids cs y.i).length ≤ n := by have := kidsF_len y.i cs 0; unfold kids; rw [← hn.out]; exact this
  have H0 : Hid (spK cs y.r ((kids cs y.i).drop 0) = spare cs y) := Lib.hid (by rw [List.drop_zero]; exact spare_kids cs y)
  obtain ⟨K, hK⟩ : ∃ K, kids cs y.i = K := ⟨_, rfl⟩
  obtain ⟨S, hS⟩ : ∃ S, spare cs y = S := ⟨_, rfl⟩
  rw [hK] at HK hKl HLT H0
  rw [hS] at H0 ⊢
  obtain ⟨g, rfl, ht, hg⟩ := HI.out (by omega)
  have HT := Lib.hid ht
  obtain ⟨_, _, b2, _⟩ := ht.cls q hqn y hy
  have b2' := fun o => ((bcell (one_new2 w o)).1 g (q * 8 + 2) hg).trans b2
  obtain ⟨yi, yp, yr, ye, yb, yu, yo, yl⟩ := y
  simp only at b2' hyr H0
  clear hK hS hy ht b2
  go_enter Tryd.func77, Tryd.ntmps77
  go_wp2_with (go_at_call 57; refine (HK.out _ (Lib.hid (HI.out.below (one_new2 _ _)))).mono ?_; rintro e w1 ⟨v, rfl, o1, b1⟩; have B1 := Lib.hid (box_four b1).2; obtain ⟨c0, c1, c2, c3, _⟩ := (box_four b1).1; obtain ⟨ad, cK, rfl, iK⟩ := own_in o1; have HIK := Lib.hid iK; clear b1 o1 iK)
  go_loop [5, 18] (fun a i => SpRelC cs K S a i) (fun _ i => K.length - (intOf i).toNat)
  case atStart => exact ⟨0, yr, Nat.zero_le _, rfl, rfl, by omega, by omega, H0⟩
  case round =>
    obtain ⟨k, z, hk, rfl, rfl, z1, z2, HP⟩ := hrel
    by_cases hlt : k < K.length
    · obtain ⟨gk, rfl, hkt, hkg⟩ := HIK.out (by omega)
      obtain ⟨j, hj⟩ : ∃ j, K.getD k 0 = j := ⟨_, rfl⟩
      have e0 := hkt.nat k hlt j hj
      have hjl : j < cs.length := by rw [← hj]; exact HLT.out k hlt
      have hjn : j < n := by rw [← hn.out]; exact hjl
      obtain ⟨x, hx⟩ : ∃ x, cs.getD j cls0 = x := ⟨_, rfl⟩
      have hxr := HR.out j hjl
      rw [hx] at hxr
      obtain ⟨_, _, a2, _⟩ := (HT.out.below B1.out hg).cls j hjl x hx
      have HE := Lib.hid (spK_at cs z K k hlt j hj)
      rw [hx] at HE
      obtain ⟨xi, xp, xr, xe, xb, xu, xo, xl⟩ := x
      simp only at a2 hxr HE
      have HX : Hid (spK cs (z - xr) (K.drop (k + 1)) = S) := Lib.hid (HE.out.symm.trans HP.out)
      have k24 : (k : Int) < 24 := by omega
      clear hkt hj hx hjl
      go_wp2_with fail
      go_round
      case rel => exact ⟨k + 1, z - xr, by omega, by go_num, rfl, by omega, by omega, HX⟩
      case measure => simp [intOf]; omega
    · have HX : Hid (z = S) := Lib.hid (by rw [← HP.out, spK_end cs z K k (by omega)])
      go_wp2_with fail
      go_ret
      exact ⟨ret_int HX.out, B1.out⟩
end Go.Proofs.YtkpocljlmbihcaaDoor
