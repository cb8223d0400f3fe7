import Derived.Test.YthgbhnedfdnfpaaDoorPkf
import Derived.Test.YthgbhnedfdnfpaaDoorPkd
import Derived.LoopTactic
import Derived.WalkMore
import Derived.WalkSmall
import Derived.Deep.RegionWith
import Derived.Deep.QuietTactic
import Derived.Deep.AppendLies
import Derived.BigQuiet
/- The model's functions over classes: what is found, children, rates, ways up. -/
namespace Go.Proofs.YthgbhnedfdnfpaaDoor
set_option maxRecDepth 100000
open Go.RowKit
set_option linter.unusedVariables false

/-- an index or -1 -/
def fndI (cs : List Cls) (id : Int) : Int := match fnd cs id with | .none => -1 | .some k => k
theorem fndI_some {cs : List Cls} {id : Int} {k : Nat} (h : fnd cs id = Option.some k) : fndI cs id = k := by unfold fndI; rw [h]
theorem fndI_none {cs : List Cls} {id : Int} (h : fnd cs id = Option.none) : fndI cs id = -1 := by unfold fndI; rw [h]
/-- a world behind the box of a configuration -/
def Aft (w : World) (o : Obj) (wr : World) : Prop := Below (w.alloc o).heap.size (w.alloc o) wr
theorem Aft.all {w wr : World} {a0 a1 a2 a3 : Value} {t : TypeId} (h : Aft w (.cells #[a0, a1, a2, a3] t) wr) : FourIs wr w.heap.size a0 a1 a2 a3 ∧ Below w.heap.size w wr := box_four h
theorem Aft.refl (w : World) (o : Obj) : Aft w o (w.alloc o) := Below.refl _ _
theorem Aft.on {w wr w1 : World} {o : Obj} (h : Aft w o wr) (b : Below wr.heap.size wr w1) : Aft w o w1 := Below.trans h (b.mono (Below.size h))
theorem Aft.up {w wr w1 : World} {o : Obj} (h : Aft w o wr) (b : Below (w.heap.size + 1) wr w1) : Aft w o w1 := Below.trans h (show Below (w.alloc o).heap.size wr w1 by rw [show (w.alloc o).heap.size = w.heap.size + 1 by simp]; exact b)
theorem Aft.alloc {w wr : World} {o : Obj} (h : Aft w o wr) (o' : Obj) : Aft w o (wr.alloc o') := h.on (one_new2 _ _)
def FRel (w : World) (o : Obj) (n : Nat) (cs : List Cls) (id : Int) (i : Value) (wr : World) : Prop := ∃ k : Nat, k ≤ n ∧ i = .int .i64 k ∧ Aft w o wr ∧ ∀ j, j < k → (cs.getD j cls0).i ≠ id
set_option maxHeartbeats 1600000 in
theorem cfFind_any (s : ByteArray) (ac af : Option Addr) (n cc m cf : Nat) (d : Int) (cs : List Cls) (id : Int) (w : World) (HI : Hid (InX w ac n (clsCs cs))) (hn : Hid (cs.length = n)) (hm : n ≤ 1048576) :
    Calls Tryd.prog 43 #[(.agg #[.string s, .slice ac n cc, .slice af m cf, .int .i64 d]), .int .i64 id] w (SaysI w (fndI cs id)) := by
  go_enter Tryd.func43, Tryd.ntmps43
  go_wp2_with fail
  go_loopw [10] (fun i wr => FRel w (Obj.cells #[.string s, .slice ac n cc, .slice af m cf, .int .i64 d] 26) n cs id i wr) (fun i _ => n - (intOf i).toNat)
  case atStart => exact ⟨0, Nat.zero_le _, rfl, Aft.refl _ _, fun j hj => absurd hj (Nat.not_lt_zero j)⟩
  case round =>
    obtain ⟨k, hk, rfl, hb, hno⟩ := hrel
    have HB := Lib.hid hb
    have HN := Lib.hid hno
    clear hno
    by_cases hlt : k < n
    · obtain ⟨g, rfl, ht, hg⟩ := HI.out (by omega)
      obtain ⟨x, hx⟩ : ∃ x, cs.getD k cls0 = x := ⟨_, rfl⟩
      have hl1 : k < cs.length := by rw [hn.out]; exact hlt
      obtain ⟨a0, a1, a2, a3, a4, a5, a6, a7⟩ := (ht.below hb.all.2 hg).cls k hl1 x hx
      by_cases he : x.i = id
      · have HX : Hid (fndI cs id = k) := Lib.hid (fndI_some (fnd_some cs id k hl1 (by rw [hx]; exact he) HN.out))
        obtain ⟨xi, xp, xr, xe, xb, xu, xo, xl⟩ := x
        simp only at a0 a1 a2 a3 a4 a5 a6 a7 he
        have dq : (xi == id) = true := by simpa using he
        clear hb hx hl1 ht he
        go_wp2_with fail
        go_ret
        exact ⟨ret_int HX.out.symm, (HB.out.alloc _).all.2⟩
      · have HX : Hid (∀ j, j < k + 1 → (cs.getD j cls0).i ≠ id) := Lib.hid (fun j hj => by
          rcases Nat.lt_succ_iff_lt_or_eq.1 hj with h | h
          · exact HN.out j h
          · rw [h, hx]; exact he)
        obtain ⟨xi, xp, xr, xe, xb, xu, xo, xl⟩ := x
        simp only at a0 a1 a2 a3 a4 a5 a6 a7 he
        have dq : (xi == id) = false := by simpa using he
        clear hb hx hl1 ht he
        go_wp2_with fail
        go_roundw
        case rel => exact ⟨k + 1, by omega, by go_num, HB.out.alloc _, HX.out⟩
        case measure => simp [intOf]; omega
    · have HX : Hid (fndI cs id = -1) := Lib.hid (fndI_none (fnd_none cs id (fun j hj => HN.out j (by have := hn.out; omega))))
      clear hb
      go_wp2_with fail
      go_ret
      exact ⟨ret_int HX.out.symm, HB.out.all.2⟩

/-! Lists of indices. -/
theorem own_snoc {w wx w1 : World} {B k : Nat} {v v' : Value} {ks : List Nat} {u : Value} (hu : u = .int .i64 (k : Int)) (hb : Below B w wx) (h' : w1.ownsRow B 3 1 v' (ks.length + 1) (nv ks ++ [u])) (hB : B ≤ wx.heap.size) (hg : wx.grownBy w1 v.ownBlock) (hl : ∀ g, v.ownBlock = some g → B ≤ g) :
    w1.ownsRow B 3 1 v' (ks ++ [k]).length (nv (ks ++ [k])) ∧ Below B w w1 := by
  subst hu
  refine ⟨?_, hb.grown hg hB hl⟩
  rw [nv_snoc, List.length_append]
  exact h'
def KRel (w : World) (o : Obj) (n : Nat) (cs : List Cls) (id : Int) (K : List Nat) (out i : Value) (wr : World) : Prop :=
  ∃ (k : Nat) (ks : List Nat), k ≤ n ∧ ks.length ≤ k ∧ i = .int .i64 k ∧ Aft w o wr ∧ wr.ownsRow (w.heap.size + 1) 3 1 out ks.length (nv ks) ∧ Hid (ks ++ kidsF id k (cs.drop k) = K)
def SaysNs (w : World) (K : List Nat) (e : Ending) (w' : World) : Prop := ∃ v, e = .returned v ∧ w'.ownsRow w.heap.size 3 1 v K.length (nv K) ∧ Below w.heap.size w w'
set_option maxHeartbeats 3200000 in
theorem cfKids_any (s : ByteArray) (ac af : Option Addr) (n cc m cf : Nat) (d : Int) (cs : List Cls) (q : Nat) (w : World) (HI : Hid (InX w ac n (clsCs cs))) (hn : Hid (cs.length = n)) (hm : n ≤ 1048576) (hq : q < n) :
    Calls Tryd.prog 26 #[(.agg #[.string s, .slice ac n cc, .slice af m cf, .int .i64 d]), .int .i64 q] w (SaysNs w (kids cs (cs.getD q cls0).i)) := by
  obtain ⟨i0, hi, hz0, hz1, hz2⟩ := info_parts infoI
  obtain ⟨y, hy⟩ : ∃ y, cs.getD q cls0 = y := ⟨_, rfl⟩
  rw [hy]
  obtain ⟨K, hK⟩ : ∃ K, kids cs y.i = K := ⟨_, rfl⟩
  have H0 : Hid ([] ++ kidsF y.i 0 (cs.drop 0) = K) := Lib.hid hK
  rw [hK]
  have HY := Lib.hid hy
  clear hK hy
  go_enter Tryd.func26, Tryd.ntmps26
  go_wp2_with fail
  go_loopw [5, 11] (fun out i wr => KRel w (Obj.cells #[.string s, .slice ac n cc, .slice af m cf, .int .i64 d] 26) n cs y.i K out i wr) (fun _ i _ => n - (intOf i).toNat)
  case atStart => exact ⟨0, [], Nat.zero_le _, Nat.le_refl _, rfl, Aft.refl _ _, (World.ownsRow_nil _ _ _ _ : (w.alloc (Obj.cells #[.string s, .slice ac n cc, .slice af m cf, .int .i64 d] 26)).ownsRow _ 3 1 _ 0 []), H0⟩
  case round =>
    obtain ⟨k, ks, hk, hkl, rfl, hb, ho, HP⟩ := hrel
    have HB := Lib.hid hb
    have HO := Lib.hid ho
    by_cases hlt : k < n
    · obtain ⟨g, rfl, ht, hg⟩ := HI.out (by omega)
      obtain ⟨x, hx⟩ : ∃ x, cs.getD k cls0 = x := ⟨_, rfl⟩
      have hl1 : k < cs.length := by rw [hn.out]; exact hlt
      have ht2 := ht.below hb.all.2 hg
      obtain ⟨a0, a1, a2, a3, a4, a5, a6, a7⟩ := ht2.cls k hl1 x hx
      have hgr : g < wr.heap.size := Nat.lt_of_lt_of_le hg hb.all.2.size
      have b0 := ((ht2.cls q (by rw [hn.out]; exact hq) y HY.out).later hgr).1
      obtain ⟨_, e1, _, _, hgw⟩ := hb.all.1
      have e1' := fun o => ((bcell (one_new2 wr o)).1 _ 1 hgw).trans e1
      have HE := Lib.hid (kidsF_at y.i cs k hl1 x hx)
      obtain ⟨yi, yp, yr, ye, yb, yu, yo, yl⟩ := y
      obtain ⟨xi, xp, xr, xe, xb, xu, xo, xl⟩ := x
      simp only at a0 a1 a2 a3 a4 a5 a6 a7 b0 HE
      clear hb hx hl1 ht ht2 e1
      by_cases he : xp = yi
      · have dq : (xp == yi) = true := by simpa using he
        have HX : Hid ((ks ++ [k]) ++ kidsF yi (k + 1) (cs.drop (k + 1)) = K) := Lib.hid (by rw [← HP.out, HE.out, if_pos he]; simp)
        clear he
        go_wp2_with fail
        go_quiet (fail)
        go_wp2_with (at_builtin; refine wpList_append_own _ rfl _ _ 29 rfl (w.heap.size + 1) 3 i0 (.int .i64 0) 1 8 Tryd.underlying29 hi hz0 hz1 hz2 rfl (by decide) _ _ _ rfl (World.ownsRow.alloc (w := (wr.alloc (Obj.cells #[.int .i64 xi, .int .i64 xp, .int .i64 xr, .int .i64 xe, .int .i64 xb, .int .i64 xu, .int .i64 xo, .int .i64 xl] 43)).drewN nq) (World.ownsRow.alloc HO.out _) _) ⟨wr.heap.size + 1, 0, none⟩ 1 1 [.int .i64 (k : Int)] rfl rfl (by have := one_int ((wr.alloc (Obj.cells #[.int .i64 xi, .int .i64 xp, .int .i64 xr, .int .i64 xe, .int .i64 xb, .int .i64 xu, .int .i64 xo, .int .i64 xl] 43)).drewN nq) (.int .i64 (k : Int)) 3; simpa using this) (by intro u hu; simp at hu; subst hu; rfl) (by unfold maxLen; omega) (by omega) (by have := (HB.out.all).1.2.2.2.2; simp; omega) ?_; intro v' w3 hown1 hgrow1 _)
        have F := Lib.hid (own_snoc rfl ((((Below.refl (w.heap.size + 1) wr).alloc (HB.out.all).1.2.2.2.2 (Obj.cells #[.int .i64 xi, .int .i64 xp, .int .i64 xr, .int .i64 xe, .int .i64 xb, .int .i64 xu, .int .i64 xo, .int .i64 xl] 43)).trans (below_drewN (Below.refl _ _) nq)).alloc (by have := (HB.out.all).1.2.2.2.2; simp; omega) _) hown1 (by have := (HB.out.all).1.2.2.2.2; simp; omega) hgrow1 (fun g h => (World.ownsRow.lt HO.out g h).1))
        clear hown1 hgrow1
        go_roundw
        case rel => exact ⟨k + 1, ks ++ [k], by omega, by simp; omega, by go_num, HB.out.up F.out.2, F.out.1, HX⟩
        case measure => simp [intOf]; omega
      · have dq : (xp == yi) = false := by simpa using he
        have HX : Hid (ks ++ kidsF yi (k + 1) (cs.drop (k + 1)) = K) := Lib.hid (by rw [← HP.out, HE.out, if_neg he])
        clear he
        go_wp2_with fail
        go_quiet (fail)
        go_wp2_with fail
        go_roundw
        case rel => exact ⟨k + 1, ks, by omega, by omega, by go_num, (HB.out.alloc _).on (below_drewN (Below.refl _ _) _), World.ownsRow.alloc HO.out _, HX⟩
        case measure => simp [intOf]; omega
    · have HX : Hid (ks = K) := Lib.hid (by rw [← HP.out, kidsF_end _ cs k (by rw [hn.out]; omega), List.append_nil])
      clear hb ho
      go_wp2_with fail
      go_ret
      exact ⟨_, rfl, by rw [← HX.out]; exact own_base HO.out (Nat.le_succ _), HB.out.all.2⟩
end Go.Proofs.YthgbhnedfdnfpaaDoor

/- The model's functions over classes: leaves, rates, ways up, targets. -/
namespace Go.Proofs.YthgbhnedfdnfpaaDoor
set_option maxRecDepth 100000
open Go.RowKit
set_option linter.unusedVariables false

theorem hasK_kids (cs : List Cls) (id : Int) : (((kids cs id).length : Int) == 0) = !hasK cs id := by
  have := kidsF_nil id cs 0
  unfold kids
  cases hk : hasK cs id with
  | false => rw [this.2 hk]; rfl
  | true =>
    have : kidsF id 0 cs ≠ [] := fun h => by rw [this.1 h] at hk; cases hk
    have := List.length_pos_iff.2 this
    simp; omega
set_option maxHeartbeats 1600000 in
theorem cfLeaf_any (s : ByteArray) (ac af : Option Addr) (n cc m cf : Nat) (d : Int) (cs : List Cls) (q : Nat) (w : World) (HI : Hid (InX w ac n (clsCs cs))) (hn : Hid (cs.length = n)) (hm : n ≤ 1048576) (hq : q < n) :
    Calls Tryd.prog 55 #[(.agg #[.string s, .slice ac n cc, .slice af m cf, .int .i64 d]), .int .i64 q] w (SaysB w (!hasK cs (cs.getD q cls0).i)) := by
  have HK := Lib.hid (fun w HI => cfKids_any s ac af n cc m cf d cs q w HI hn hm hq)
  have HL := Lib.hid (hasK_kids cs (cs.getD q cls0).i)
  obtain ⟨K, hK⟩ : ∃ K, kids cs (cs.getD q cls0).i = K := ⟨_, rfl⟩
  obtain ⟨b, hb⟩ : ∃ b, (!hasK cs (cs.getD q cls0).i) = b := ⟨_, rfl⟩
  rw [hK] at HK HL
  rw [hb] at HL ⊢
  clear hK hb
  go_enter Tryd.func55, Tryd.ntmps55
  go_wp2_with (go_at_call 26; refine (HK.out _ (Lib.hid (HI.out.below (one_new2 _ _)))).mono ?_; rintro e w1 ⟨v, rfl, o1, b1⟩; obtain ⟨ad, c1, rfl, _⟩ := own_in o1; have B1 := Lib.hid ((one_new2 _ _).trans (b1.mono (by simp))); clear b1 o1)
  go_ret
  exact ⟨ret_bool HL.out, B1.out⟩
set_option maxHeartbeats 1600000 in
theorem cfTarget_any (s : ByteArray) (ac af : Option Addr) (n cc m cf : Nat) (d : Int) (cs : List Cls) (id : Int) (w : World) (HI : Hid (InX w ac n (clsCs cs))) (hn : Hid (cs.length = n)) (hm : n ≤ 1048576) :
    Calls Tryd.prog 54 #[(.agg #[.string s, .slice ac n cc, .slice af m cf, .int .i64 d]), .int .i64 id] w (SaysB w (leafB cs id)) := by
  have HF := Lib.hid (fun w HI => cfFind_any s ac af n cc m cf d cs id w HI hn hm)
  cases hf : fnd cs id with
  | none =>
    rw [fndI_none hf] at HF
    have HX : Hid (leafB cs id = false) := Lib.hid (by unfold leafB; rw [hf]; rfl)
    clear hf
    go_enter Tryd.func54, Tryd.ntmps54
    go_wp2_with (go_at_call 43; refine (HF.out _ (Lib.hid (HI.out.below (one_new2 _ _)))).mono ?_; rintro e w1 ⟨rfl, b1⟩; have B1 := Lib.hid (box_four b1).2; clear b1)
    go_ret
    exact ⟨ret_bool HX.out.symm, B1.out⟩
  | some k =>
    rw [fndI_some hf] at HF
    have hk := fnd_get cs id k hf
    have hkn : k < n := by rw [← hn.out]; exact hk.1
    have HX : Hid (leafB cs id = !hasK cs (cs.getD k cls0).i) := Lib.hid (by unfold leafB; rw [hf, hk.2]; rfl)
    have HL := Lib.hid (fun w HI => cfLeaf_any s ac af n cc m cf d cs k w HI hn hm hkn)
    have d0 := is_le (show (0 : Int) ≤ (k : Int) by omega)
    obtain ⟨b, hb⟩ : ∃ b, (!hasK cs (cs.getD k cls0).i) = b := ⟨_, rfl⟩
    rw [hb] at HL HX
    clear hf hk hb
    go_enter Tryd.func54, Tryd.ntmps54
    go_wp2_with (go_at_call 43; refine (HF.out _ (Lib.hid (HI.out.below (one_new2 _ _)))).mono ?_; rintro e w1 ⟨rfl, b1⟩; have B1 := Lib.hid (box_four b1).2; obtain ⟨c0, c1, c2, c3, _⟩ := (box_four b1).1; clear b1)
    go_wp2_with (go_at_call 55; refine (HL.out _ (Lib.hid (HI.out.below B1.out))).mono ?_; rintro e w2 ⟨rfl, b2⟩; have B2 := Lib.hid (B1.out.trans (b2.mono B1.out.size)); clear b2)
    go_ret
    exact ⟨ret_bool HX.out.symm, B2.out⟩
def SpRelC (cs : List Cls) (K : List Nat) (S : Int) (a i : Value) : Prop := ∃ (k : Nat) (z : Int), k ≤ K.length ∧ i = .int .i64 k ∧ a = .int .i64 z ∧ z ≤ 100000 ∧ -(100000 * (k : Int)) ≤ z ∧ Hid (spK cs z (K.drop k) = S)
theorem spK_at (cs : List Cls) (z : Int) (K : List Nat) (k : Nat) (h : k < K.length) (j : Nat) (hj : K.getD k 0 = j) : spK cs z (K.drop k) = spK cs (z - (cs.getD j cls0).r) (K.drop (k + 1)) := by
  rw [List.drop_eq_getElem_cons h, spK]
  subst hj
  simp [List.getD_eq_getElem?_getD, h]
theorem spK_end (cs : List Cls) (z : Int) (K : List Nat) (k : Nat) (h : K.length ≤ k) : spK cs z (K.drop k) = z := by
  rw [List.drop_eq_nil_of_le h]; rfl
def RatesIn (cs : List Cls) : Prop := ∀ k, k < cs.length → 1 ≤ (cs.getD k cls0).r ∧ (cs.getD k cls0).r ≤ 100000
theorem okL_rates {cs : List Cls} {b : Int} (h : okL b cs = true) : RatesIn cs := fun k hk => rateOk_r (okL_ids cs b h k hk).2.2
theorem kids_lt (cs : List Cls) (id : Int) (k : Nat) (h : k < (kids cs id).length) : (kids cs id).getD k 0 < cs.length := by
  have := kidsF_lt id cs 0 ((kids cs id).getD k 0) (by unfold kids at *; simp [List.getD_eq_getElem?_getD, h])
  omega
set_option maxHeartbeats 3200000 in
theorem cfSpare_any (s : ByteArray) (ac af : Option Addr) (n cc m cf : Nat) (d : Int) (cs : List Cls) (q : Nat) (w : World) (HI : Hid (InX w ac n (clsCs cs))) (hn : Hid (cs.length = n)) (hm : n ≤ 1048576) (hq : q < n) (h24 : n ≤ 24) (HR : Hid (RatesIn cs)) :
    Calls Tryd.prog 28 #[(.agg #[.string s, .slice ac n cc, .slice af m cf, .int .i64 d]), .int .i64 q] w (SaysI w (spare cs (cs.getD q cls0))) := by
  have HK := Lib.hid (fun w HI => cfKids_any s ac af n cc m cf d cs q w HI hn hm hq)
  have hqn : q < cs.length := by rw [hn.out]; exact hq
  obtain ⟨y, hy⟩ : ∃ y, cs.getD q cls0 = y := ⟨_, rfl⟩
  have hyr := HR.out q hqn
  rw [hy] at HK hyr ⊢
  have HLT := Lib.hid (kids_lt cs y.i)
  have hKl : (kids cs y.i).length ≤ n := by have := kidsF_len y.i cs 0; unfold kids; rw [← hn.out]; exact this
  have H0 : Hid (spK cs y.r ((kids cs y.i).drop 0) = spare cs y) := Lib.hid (by rw [List.drop_zero]; exact spare_kids cs y)
  obtain ⟨K, hK⟩ : ∃ K, kids cs y.i = K := ⟨_, rfl⟩
  obtain ⟨S, hS⟩ : ∃ S, spare cs y = S := ⟨_, rfl⟩
  rw [hK] at HK hKl HLT H0
  rw [hS] at H0 ⊢
  obtain ⟨g, rfl, ht, hg⟩ := HI.out (by omega)
  have HT := Lib.hid ht
  obtain ⟨_, _, b2, _⟩ := ht.cls q hqn y hy
  have b2' := fun o => ((bcell (one_new2 w o)).1 g (q * 8 + 2) hg).trans b2
  obtain ⟨yi, yp, yr, ye, yb, yu, yo, yl⟩ := y
  simp only at b2' hyr H0
  clear hK hS hy ht b2
  go_enter Tryd.func28, Tryd.ntmps28
  go_wp2_with (go_at_call 26; refine (HK.out _ (Lib.hid (HI.out.below (one_new2 _ _)))).mono ?_; rintro e w1 ⟨v, rfl, o1, b1⟩; have B1 := Lib.hid (box_four b1).2; obtain ⟨c0, c1, c2, c3, _⟩ := (box_four b1).1; obtain ⟨ad, cK, rfl, iK⟩ := own_in o1; have HIK := Lib.hid iK; clear b1 o1 iK)
  go_loop [5, 18] (fun a i => SpRelC cs K S a i) (fun _ i => K.length - (intOf i).toNat)
  case atStart => exact ⟨0, yr, Nat.zero_le _, rfl, rfl, by omega, by omega, H0⟩
  case round =>
    obtain ⟨k, z, hk, rfl, rfl, z1, z2, HP⟩ := hrel
    by_cases hlt : k < K.length
    · obtain ⟨gk, rfl, hkt, hkg⟩ := HIK.out (by omega)
      obtain ⟨j, hj⟩ : ∃ j, K.getD k 0 = j := ⟨_, rfl⟩
      have e0 := hkt.nat k hlt j hj
      have hjl : j < cs.length := by rw [← hj]; exact HLT.out k hlt
      have hjn : j < n := by rw [← hn.out]; exact hjl
      obtain ⟨x, hx⟩ : ∃ x, cs.getD j cls0 = x := ⟨_, rfl⟩
      have hxr := HR.out j hjl
      rw [hx] at hxr
      obtain ⟨_, _, a2, _⟩ := (HT.out.below B1.out hg).cls j hjl x hx
      have HE := Lib.hid (spK_at cs z K k hlt j hj)
      rw [hx] at HE
      obtain ⟨xi, xp, xr, xe, xb, xu, xo, xl⟩ := x
      simp only at a2 hxr HE
      have HX : Hid (spK cs (z - xr) (K.drop (k + 1)) = S) := Lib.hid (HE.out.symm.trans HP.out)
      have k24 : (k : Int) < 24 := by omega
      clear hkt hj hx hjl
      go_wp2_with fail
      go_round
      case rel => exact ⟨k + 1, z - xr, by omega, by go_num, rfl, by omega, by omega, HX⟩
      case measure => simp [intOf]; omega
    · have HX : Hid (z = S) := Lib.hid (by rw [← HP.out, spK_end cs z K k (by omega)])
      go_wp2_with fail
      go_ret
      exact ⟨ret_int HX.out, B1.out⟩
end Go.Proofs.YthgbhnedfdnfpaaDoor
