/- Chapter 4's functions that return lists of indices: children, leaves. -/
import Derived.Test.YtfniajfhcifcbaaDoorCfd
import Derived.Test.YtfniajfhcifcbaaDoorCft
namespace Go.Proofs.YtfniajfhcifcbaaDoor
set_option maxRecDepth 100000
open Go.RowKit
set_option linter.unusedVariables false

def SaysTS (w : World) (K : List Nat) (b : Bool) (e : Ending) (w' : World) : Prop := ∃ v, e = .returned (.tuple #[v, .bool b]) ∧ w'.ownsRow w.heap.size 3 1 v K.length (nv K) ∧ Below w.heap.size w w'
theorem ret_vb {v : Value} {p q : Bool} (h' : p = q) : Ending.returned (.tuple #[v, .bool p]) = .returned (.tuple #[v, .bool q]) := by rw [h']
def resChildClasses1 (c : Cfg) (a : Int) : List Nat := if hasI c a then kids c.cs (c.cs.getD a.toNat cls0).i else []
def resChildClasses2 (c : Cfg) (a : Int) : Bool := hasI c a
theorem cc_bad {c : Cfg} {a : Int} (h : hasI c a = false) : resChildClasses1 c a = [] ∧ resChildClasses2 c a = false := by unfold resChildClasses1 resChildClasses2; rw [h]; exact ⟨rfl, rfl⟩
theorem cc_good {c : Cfg} {q : Nat} (h : hasI c (q : Int) = true) : resChildClasses1 c q = kids c.cs (c.cs.getD q cls0).i ∧ resChildClasses2 c q = true := by unfold resChildClasses1 resChildClasses2; rw [h]; exact ⟨rfl, rfl⟩
theorem lenChildClasses (c : Cfg) (a : Int) : (resChildClasses1 c a).length ≤ 24 := by
  unfold resChildClasses1
  by_cases h : hasI c a = true
  · rw [if_pos h]
    have h1 := kidsF_len (c.cs.getD a.toNat cls0).i c.cs 0
    have h2 := (good_of (has_iff h).1).n24
    unfold kids
    omega
  · rw [if_neg h]; simp
set_option maxHeartbeats 3200000 in
theorem specChildClasses_any (v : Value) (c : Cfg) (a : Int) (w : World) (HV : Hid (CfgV w v c)) (HM : Hid (CfgM c)) :
    Calls Tryd.prog 23 #[v, .int .i64 a] w (SaysTS w (resChildClasses1 c a) (resChildClasses2 c a)) := by
  obtain ⟨ac, cc, af, cf, rfl, ic, if_⟩ := HV.out
  obtain ⟨s, cs, fs, d⟩ := c
  have hM := HM.out
  unfold CfgM at hM
  simp only at ic if_ hM HV ⊢
  obtain ⟨q0, q1, q2⟩ := hM
  have HI := Lib.hid ic
  have HJ := Lib.hid if_
  have HVB := Lib.hid (fun w' (b : Below w.heap.size w w') => Lib.hid (HV.out.below b))
  have A0 := Lib.hid (Aft.refl w (Obj.cells #[.string s, .slice ac cs.length cc, .slice af fs.length cf, .int .i64 d] 31))
  clear ic if_
  have HH := Lib.hid (fun w' (b : Below w.heap.size w w') => cfHas_any (.agg #[.string s, .slice ac cs.length cc, .slice af fs.length cf, .int .i64 d]) ⟨s, cs, fs, d⟩ a w' (HVB.out w' b) HM)
  cases hh : hasI ⟨s, cs, fs, d⟩ a
  · obtain ⟨x1, x2⟩ := cc_bad hh
    rw [x1, x2]
    rw [hh] at HH
    clear x1 x2 hh
    go_enter Tryd.func23, Tryd.ntmps23
    go_wp2_with (go_at_call 64; refine (HH.out _ A0.out.all.2).mono ?_; rintro e w1 ⟨rfl, b1⟩; have A1 := Lib.hid (A0.out.on b1); clear b1)
    go_ret2
    exact ⟨_, rfl, World.ownsRow_nil _ _ _ _, A1.out.all.2⟩
  · rw [hh] at HH
    obtain ⟨hg, q, rfl, hq⟩ := has_iff hh
    obtain ⟨x1, x2⟩ := cc_good hh
    have HKD := Lib.hid (fun w' HI => cfKids_any s ac af cs.length cc fs.length cf d cs q w' HI (Lib.hid rfl) q1 hq)
    rw [x1, x2]
    simp only
    generalize kids cs (cs.getD q cls0).i = K at HKD ⊢
    clear x1 x2 hh hg
    go_enter Tryd.func23, Tryd.ntmps23
    go_wp2_with (go_at_call 64; refine (HH.out _ A0.out.all.2).mono ?_; rintro e w1 ⟨rfl, b1⟩; have A1 := Lib.hid (A0.out.on b1); obtain ⟨c0, c1, c2, c3, _⟩ := A1.out.all.1; clear b1)
    go_wp2_with (go_at_call 65; refine (HKD.out _ (Lib.hid (HI.out.below A1.out.all.2))).mono ?_; rintro e w2 ⟨v2, rfl, o2, b2⟩; have A2 := Lib.hid (A1.out.on b2); have O2 := Lib.hid (own_base o2 A1.out.all.2.size); clear b2 o2)
    go_ret2
    exact ⟨_, rfl, O2.out, A2.out.all.2⟩
set_option maxHeartbeats 6400000 in
theorem implChildClasses_any (v : Value) (c : Cfg) (a : Int) (w : World) (HK : Hid (Kwt w)) (HV : Hid (CfgV w v c)) (HM : Hid (CfgM c)) :
    Calls Tryd.prog 24 #[v, .int .i64 a] w (SaysTS w (resChildClasses1 c a) (resChildClasses2 c a)) := by
  obtain ⟨ac, cc, af, cf, rfl, ic, if_⟩ := HV.out
  obtain ⟨s, cs, fs, d⟩ := c
  have hM := HM.out
  unfold CfgM at hM
  simp only at ic if_ hM HV ⊢
  obtain ⟨q0, q1, q2⟩ := hM
  have HI := Lib.hid ic
  have HJ := Lib.hid if_
  have HVB := Lib.hid (fun w' (b : Below w.heap.size w w') => Lib.hid (HV.out.below b))
  have A0 := Lib.hid (Aft.refl w (Obj.cells #[.string s, .slice ac cs.length cc, .slice af fs.length cf, .int .i64 d] 31))
  clear ic if_
  have HH := Lib.hid (fun w' (b : Below w.heap.size w w') => hasIndex_any (.agg #[.string s, .slice ac cs.length cc, .slice af fs.length cf, .int .i64 d]) ⟨s, cs, fs, d⟩ a w' (Lib.hid (HK.out.below b)) (HVB.out w' b) HM)
  cases hh : hasI ⟨s, cs, fs, d⟩ a
  · obtain ⟨x1, x2⟩ := cc_bad hh
    rw [x1, x2]
    rw [hh] at HH
    clear x1 x2 hh
    go_enter Tryd.func24, Tryd.ntmps24
    go_wp2_with (go_at_call 66; refine (HH.out _ A0.out.all.2).mono ?_; rintro e w1 ⟨rfl, b1⟩; have A1 := Lib.hid (A0.out.on b1); clear b1)
    go_ret2
    exact ⟨_, rfl, World.ownsRow_nil _ _ _ _, A1.out.all.2⟩
  · rw [hh] at HH
    obtain ⟨hg, q, rfl, hq⟩ := has_iff hh
    obtain ⟨x1, x2⟩ := cc_good hh
    rw [x1, x2]
    simp only at hq ⊢
    obtain ⟨i0, hi, hz0, hz1, hz2⟩ := info_parts infoI
    obtain ⟨y, hy⟩ : ∃ y, cs.getD q cls0 = y := ⟨_, rfl⟩
    rw [hy]
    obtain ⟨K, hK⟩ : ∃ K, kids cs y.i = K := ⟨_, rfl⟩
    have H0 : Hid ([] ++ kidsF y.i 0 (cs.drop 0) = K) := Lib.hid hK
    rw [hK]
    have HY := Lib.hid hy
    obtain ⟨n, hn⟩ : ∃ n, cs.length = n := ⟨_, rfl⟩
    have HN := Lib.hid hn
    simp only [hn] at hq HH HI A0 HV HVB q1 ⊢
    clear x1 x2 hh hg hK hy hn
    go_enter Tryd.func24, Tryd.ntmps24
    go_wp2_with (go_at_call 66; refine (HH.out _ A0.out.all.2).mono ?_; rintro e w1 ⟨rfl, b1⟩; have A1 := Lib.hid (A0.out.on b1); obtain ⟨c0, c1, c2, c3, _⟩ := A1.out.all.1; clear b1)
    go_loopw [6, 16] (fun out i wr => KRel w (Obj.cells #[.string s, .slice ac n cc, .slice af fs.length cf, .int .i64 d] 31) n cs y.i K out i wr) (fun _ i _ => n - (intOf i).toNat)
    case atStart => exact ⟨0, [], Nat.zero_le _, Nat.le_refl _, rfl, A1.out, World.ownsRow_nil _ _ _ _, H0⟩
    case round =>
      obtain ⟨k, ks, hk, hkl, rfl, hb, ho, HP⟩ := hrel
      have HB := Lib.hid hb
      have HO := Lib.hid ho
      clear c0 c1 c2 c3
      by_cases hlt : k < n
      · obtain ⟨g, rfl, ht, hg⟩ := HI.out (by omega)
        obtain ⟨x, hx⟩ : ∃ x, cs.getD k cls0 = x := ⟨_, rfl⟩
        have hl1 : k < cs.length := by rw [HN.out]; exact hlt
        have ht2 := ht.below hb.all.2 hg
        obtain ⟨a0, a1, a2, a3, a4, a5, a6, a7⟩ := ht2.cls k hl1 x hx
        have hgr : g < wr.heap.size := Nat.lt_of_lt_of_le hg hb.all.2.size
        have b0 := ((ht2.cls q (by rw [HN.out]; exact hq) y HY.out).later hgr).1
        obtain ⟨_, e1, _, _, hgw⟩ := hb.all.1
        have e1' := fun o => ((bcell (one_new2 wr o)).1 _ 1 hgw).trans e1
        have HE := Lib.hid (kidsF_at y.i cs k hl1 x hx)
        obtain ⟨yi, yp, yr, ye, yb, yu, yo, yl⟩ := y
        obtain ⟨xi, xp, xr, xe, xb, xu, xo, xl⟩ := x
        simp only at a0 a1 a2 a3 a4 a5 a6 a7 b0 HE
        clear hb hx hl1 ht ht2 e1
        by_cases he : xp = yi
        · have dq : (xp == yi) = true := by simpa using he
          have HX : Hid ((ks ++ [k]) ++ kidsF yi (k + 1) (cs.drop (k + 1)) = K) := Lib.hid (by rw [← HP.out, HE.out, if_pos he]; simp)
          clear he
          go_wp2_with fail
          go_quiet (fail)
          go_wp2_with (at_builtin; refine wpList_append_own _ rfl _ _ 39 rfl (w.heap.size + 1) 3 i0 (.int .i64 0) 1 8 Tryd.underlying39 hi hz0 hz1 hz2 rfl (by decide) _ _ _ rfl (World.ownsRow.alloc (w := (wr.alloc (Obj.cells #[.int .i64 xi, .int .i64 xp, .int .i64 xr, .int .i64 xe, .int .i64 xb, .int .i64 xu, .int .i64 xo, .int .i64 xl] 53)).drewN nq) (World.ownsRow.alloc HO.out _) _) ⟨wr.heap.size + 1, 0, none⟩ 1 1 [.int .i64 (k : Int)] rfl rfl (by have := one_int ((wr.alloc (Obj.cells #[.int .i64 xi, .int .i64 xp, .int .i64 xr, .int .i64 xe, .int .i64 xb, .int .i64 xu, .int .i64 xo, .int .i64 xl] 53)).drewN nq) (.int .i64 (k : Int)) 3; simpa using this) (by intro u hu; simp at hu; subst hu; rfl) (by unfold maxLen; omega) (by omega) (by have := (HB.out.all).1.2.2.2.2; simp; omega) ?_; intro v' w3 hown1 hgrow1 _)
          have F := Lib.hid (own_snoc rfl ((((Below.refl (w.heap.size + 1) wr).alloc (HB.out.all).1.2.2.2.2 (Obj.cells #[.int .i64 xi, .int .i64 xp, .int .i64 xr, .int .i64 xe, .int .i64 xb, .int .i64 xu, .int .i64 xo, .int .i64 xl] 53)).trans (below_drewN (Below.refl _ _) nq)).alloc (by have := (HB.out.all).1.2.2.2.2; simp; omega) _) hown1 (by have := (HB.out.all).1.2.2.2.2; simp; omega) hgrow1 (fun g h => (World.ownsRow.lt HO.out g h).1))
          clear hown1 hgrow1
          go_roundw
          case rel => exact ⟨k + 1, ks ++ [k], by omega, by simp; omega, by go_num, HB.out.up F.out.2, F.out.1, HX⟩
          case measure => simp [intOf]; omega
        · have dq : (xp == yi) = false := by simpa using he
          have HX : Hid (ks ++ kidsF yi (k + 1) (cs.drop (k + 1)) = K) := Lib.hid (by rw [← HP.out, HE.out, if_neg he])
          clear he
          go_wp2_with fail
          go_quiet (fail)
          go_wp2_with fail
          go_roundw
          case rel => exact ⟨k + 1, ks, by omega, by omega, by go_num, (HB.out.alloc _).on (below_drewN (Below.refl _ _) _), World.ownsRow.alloc HO.out _, HX⟩
          case measure => simp [intOf]; omega
      · have HX : Hid (ks = K) := Lib.hid (by rw [← HP.out, kidsF_end _ cs k (by rw [HN.out]; omega), List.append_nil])
        clear hb ho
        go_wp2_with fail
        go_ret2
        exact ⟨_, rfl, by rw [← HX.out]; exact own_base HO.out (Nat.le_succ _), HB.out.all.2⟩
end Go.Proofs.YtfniajfhcifcbaaDoor
