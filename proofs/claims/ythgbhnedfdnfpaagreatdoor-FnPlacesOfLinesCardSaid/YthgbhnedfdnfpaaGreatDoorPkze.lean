import Derived.Test.YthgbhnedfdnfpaaGreatDoorPkzb
import Derived.Test.YthgbhnedfdnfpaaGreatDoorPkzc
import Derived.Test.YthgbhnedfdnfpaaGreatDoorPkzd
import Derived.Deep.CutBlock
import Derived.Test.YthgbhnedfdnfpaaGreatDoorPky
import Derived.Test.YthgbhnedfdnfpaaGreatDoorPki
/- What a law draws of configurations: any configuration, mostly a valid one: the whole. -/
namespace Go.Proofs.YthgbhnedfdnfpaaGreatDoor
set_option maxRecDepth 100000
open Go.RowKit
set_option linter.unusedVariables false
set_option linter.unusedSimpArgs false
set_option maxRecDepth 100000

set_option maxHeartbeats 12800000 in
theorem dr_any {w W : World} {a : Option Addr} {n cap t : Nat} {zs : List Int} (HD : Hid (Dr w W a n cap zs t)) (HL : Hid (zs.length = n)) (hn : n ≤ 9223372036854775807) (ht : t ≤ 700000) :
    Calls Tryz.prog 42 #[.pointer (some ⟨w.heap.size, 0, none⟩)] W (DrAny w W a n cap zs t 1100 25 17) := by
  obtain ⟨i0, hi, hz0, hz1, hz2⟩ := info_parts infoFlt
  obtain ⟨j0, hj0, hw0, hw1, hw2⟩ := info_parts infoCls
  have hw : w.heap.size < W.heap.size := HD.out.cur.lt
  have D0 := Lib.hid (HD.out.alloc (.cells #[.string ⟨#[]⟩, .slice none 0 0, .slice none 0 0, .int .i64 0] 26))
  have HCF := Lib.hid (dr_config D0 HL hn (by omega))
  go_enter Tryz.func42, Tryz.ntmps42
  go_upto_region 2 with (go_at_call 72; (with_reducible refine HCF.out.mono ?_); rintro e v1 ⟨v, c, t1, rfl, oc, hc1, hc24, hf16, hs8, hlv, ht1, d1, b1⟩; obtain ⟨ac, cc, af, cf, rfl, oC, oF, hdd⟩ := own_cfg_parts oc; simp only [World.size_alloc] at b1 oC oF; have K1 := Lib.hid (kc_from (s := c.s) (d := c.d) hw d1.cur b1 oC oF hdd); have HLV := Lib.hid hlv; clear d1 b1 oc oC oF hdd hlv)
  obtain ⟨s0, L, M, dd⟩ := c
  simp only at hc1 hc24 hf16 hs8 HLV K1
  obtain ⟨gC, cC, e1, _, _⟩ := own_pos K1.out.C hc1
  injection e1 with e1 _ e3
  subst e1 e3
  obtain ⟨N, hN⟩ : ∃ N, L.length = N := ⟨_, rfl⟩
  have HN := Lib.hid hN
  have KD : Hid (KC w W a n cap t1 v1.heap.size s0 (.slice (some ⟨gC, 0, none⟩) N cc) (.slice af M.length cf) (.slice none 0 0) dd L M [] (v1.alloc (.cells #[.string s0, .slice (some ⟨gC, 0, none⟩) N cc, .slice af M.length cf, .int .i64 dd] 26))) := Lib.hid (by rw [← hN]; exact K1.out)
  rw [hN]
  obtain ⟨v2, hv2⟩ : ∃ u, v1.alloc (.cells #[.string s0, .slice (some ⟨gC, 0, none⟩) N cc, .slice af M.length cf, .int .i64 dd] 26) = u := ⟨_, rfl⟩
  rw [hv2] at KD ⊢
  have hbl : v1.heap.size < v2.heap.size := KD.out.box.2.2.2.2
  obtain ⟨b1, hb1⟩ : ∃ b, v1.heap.size = b := ⟨_, rfl⟩
  rw [hb1] at KD hbl ⊢
  rw [hN] at hc1 hc24
  clear hv2 hb1 K1 hN D0 HCF
  have D2 := Lib.hid (KD.out.dr HD.out)
  go_cut [4] from 14 to 21 (fun pv wx => ∃ p t3 : Nat, pv = .pointer (some ⟨gC, p * 8, none⟩) ∧ p < N ∧ t3 ≤ t1 + 2 ∧ KC w W a n cap t3 b1 s0 (.slice (some ⟨gC, 0, none⟩) N cc) (.slice af M.length cf) (.slice none 0 0) dd L M [] wx)
  case first =>
    as_aux_lemma =>
      --<S
      have HS1 : Hid (∀ t' w', KC w W a n cap t' b1 s0 (.slice (some ⟨gC, 0, none⟩) N cc) (.slice af M.length cf) (.slice none 0 0) dd L M [] w' → (w'.cell? ⟨b1, 1, none⟩ = some (.slice (some ⟨gC, 0, none⟩) N cc))) := Lib.hid (fun t' w' h => h.box.2.1)
      have KDd : Hid (KC w W a n cap t1 b1 s0 (.slice (some ⟨gC, 0, none⟩) N cc) (.slice af M.length cf) (.slice none 0 0) dd L M [] v2.drew) := Lib.hid (KD.out.on (below_drewN (Below.refl _ _) 1))
      refine AnyL.begin (S := fun w' => w'.cell? ⟨b1, 1, none⟩ = some (.slice (some ⟨gC, 0, none⟩) N cc)) (T := fun _ => True) (b := 100) (by kernel_rfl) ?_
      obtain ⟨u0, hu0⟩ : ∃ u0, v2.drew = u0 := ⟨_, rfl⟩
      rw [hu0] at KDd ⊢
      clear hu0
      have hB := And.intro (HS1.out _ _ KDd.out) trivial
      refine AnyL.tS (i := 0) (d := 14) (v := ?_) rfl rfl (by kernel_rfl) (by kernel_rfl) (by kernel_rfl) (by decide) (fun _ _ _ h => h) (by rfl) ?_ (by assumption) ?_
      rotate_left
      · intro w' hSw
        (try dsimp only at hSw)
        go_simp
        try with_reducible rfl
      try simp only [Act.put, List.setIfInBounds_toArray, List.set_cons_zero, List.set_cons_succ]
      refine AnyL.tS (i := 1) (d := 15) (v := ?_) rfl rfl (by kernel_rfl) (by kernel_rfl) (by kernel_rfl) (by decide) (fun _ _ _ h => h) (by rfl) ?_ (by assumption) ?_
      rotate_left
      · intro w' hSw
        (try dsimp only at hSw)
        go_simp
        try with_reducible rfl
      try simp only [Act.put, List.setIfInBounds_toArray, List.set_cons_zero, List.set_cons_succ]
      refine AnyL.tS (i := 2) (d := 16) (v := ?_) rfl rfl (by kernel_rfl) (by kernel_rfl) (by kernel_rfl) (by decide) (fun _ _ _ h => h) (by rfl) ?_ (by assumption) ?_
      rotate_left
      · intro w' hSw
        (try dsimp only at hSw)
        go_simp
        try with_reducible rfl
      try simp only [Act.put, List.setIfInBounds_toArray, List.set_cons_zero, List.set_cons_succ]
      refine AnyL.tS (i := 3) (d := 17) (v := ?_) rfl rfl (by kernel_rfl) (by kernel_rfl) (by kernel_rfl) (by decide) (fun _ _ _ h => h) (by rfl) ?_ (by assumption) ?_
      rotate_left
      · intro w' hSw
        (try dsimp only at hSw)
        go_simp
        try with_reducible rfl
      try simp only [Act.put, List.setIfInBounds_toArray, List.set_cons_zero, List.set_cons_succ]
      refine AnyL.tS (i := 4) (d := 18) (v := ?_) rfl rfl (by kernel_rfl) (by kernel_rfl) (by kernel_rfl) (by decide) (fun _ _ _ h => h) (by rfl) ?_ (by assumption) ?_
      rotate_left
      · intro w' hSw
        (try dsimp only at hSw)
        go_simp
        try with_reducible rfl
      try simp only [Act.put, List.setIfInBounds_toArray, List.set_cons_zero, List.set_cons_succ]
      refine AnyL.tS (i := 5) (d := 19) (v := ?_) rfl rfl (by kernel_rfl) (by kernel_rfl) (by kernel_rfl) (by decide) (fun _ _ _ h => h) (by rfl) ?_ (by assumption) ?_
      rotate_left
      · intro w' hSw
        (try dsimp only at hSw)
        go_simp
        try with_reducible rfl
      try simp only [Act.put, List.setIfInBounds_toArray, List.set_cons_zero, List.set_cons_succ]
      refine AnyL.ready (rs := [6]) (by kernel_rfl) (by simp) ?_
      refine (AllL.consN rfl (fun K' hK => ?_) AllL.nil)
      go_simp
      go_at_call 73
      refine (dr_pick1 N (by omega) (by omega) (Lib.hid (KDd.out.dr HD.out)) HL hn (by omega)).mono ?_
      rintro e u4 ⟨rq, tq, rfl, ⟨rq0, rq1⟩, htq, dq, oq⟩
      have KQ := Lib.hid (KDd.out.only hw dq.cur oq)
      clear dq oq
      refine hK.out _ _ ⟨HS1.out _ _ KQ.out, trivial⟩ (fun hB => ?_)
      clear hK K'
      try simp only [Act.put, List.setIfInBounds_toArray, List.set_cons_zero, List.set_cons_succ]
      obtain ⟨q, rfl⟩ := Int.eq_ofNat_of_zero_le rq0
      have hqN : q < N := by omega
      refine AnyL.tS (i := 7) (d := 21) (v := ?_) rfl rfl (by kernel_rfl) (by kernel_rfl) (by kernel_rfl) (by decide) (fun _ _ _ h => h) (by rfl) ?_ (by assumption) ?_
      rotate_left
      · intro w' hSw
        (try dsimp only at hSw)
        go_simp
        try with_reducible rfl
      try simp only [Act.put, List.setIfInBounds_toArray, List.set_cons_zero, List.set_cons_succ]
      refine AnyL.tS (i := 8) (d := 4) (v := ?_) rfl rfl (by kernel_rfl) (by kernel_rfl) (by kernel_rfl) (by decide) (fun _ _ _ h => h) (by rfl) ?_ (by assumption) ?_
      rotate_left
      · intro w' hSw
        (try dsimp only at hSw)
        go_simp
        try with_reducible rfl
      try simp only [Act.put, List.setIfInBounds_toArray, List.set_cons_zero, List.set_cons_succ]
      refine AnyL.done (by kernel_rfl) ?_ _
      go_wp2_with fail
      go_meet
      exact ⟨q, tq, rfl, hqN, htq, KQ.out⟩
      --S>
  case rest =>
  obtain ⟨p, t3, rfl, hp, ht3, hk3⟩ := hcut
  have K3 := Lib.hid hk3
  have D3 := Lib.hid (hk3.dr HD.out)
  clear hk3 KD D2
  go_upto_block 0 with (go_at_call 73; (with_reducible refine (dr_pick1 48 (by omega) (by omega) D3 HL hn (by omega)).mono ?_); rintro e v4 ⟨r, t4, rfl, ⟨r0, r1⟩, ht4, d4, o4⟩; have K4 := Lib.hid (K3.out.only hw d4.cur o4); have D4 := Lib.hid d4; clear d4 o4)
  clear K3 D3
  have hpL : p < L.length := by have := HN.out; omega
  obtain ⟨e0, e1, e2, e3, e4⟩ := K4.out.box
  obtain ⟨x0, x1, x2, x3, x4, x5, x6, x7⟩ := own_eight (len_row K4.out.C HN.out) p hpL
  have fb := K4.out.fro
  have hsz4 := K4.out.bar.size
  have hmax : M.length ≤ 17 ∧ L.length ≤ 25 ∧ s0.size ≤ 9 := by have := HN.out; omega
  go_cut [4] from 5 to 250 (fun pv wx => True ∧ AnyC w W a n cap (t1 + 60) b1 wx)
  case first =>
    have hcs : r ≤ 10 ∨ r = 11 ∨ r = 12 ∨ r = 13 ∨ r = 14 ∨ 15 ≤ r := by omega
    rcases hcs with h | h | h | h | h | h
    · exact any_small (rfl) HD HL hn ht ht1 ht3 ht4 hf16 hs8 HLV HN hc24 hc1 hp K4 ⟨r0, h⟩ (Lib.hid (by assumption)) (by assumption)
    · exact any_11 (rfl) HD HL hn ht ht1 ht3 ht4 hf16 hs8 HLV HN hc24 hc1 hp K4 h (Lib.hid (by assumption)) (by assumption)
    · exact any_12 (rfl) HD HL hn ht ht1 ht3 ht4 hf16 hs8 HLV HN hc24 hc1 hp K4 h (Lib.hid (by assumption)) (by assumption)
    · exact any_13 (rfl) HD HL hn ht ht1 ht3 ht4 hf16 hs8 HLV HN hc24 hc1 hp K4 h (Lib.hid (by assumption)) (by assumption)
    · exact any_14 (rfl) HD HL hn ht ht1 ht3 ht4 hf16 hs8 HLV HN hc24 hc1 hp K4 h (Lib.hid (by assumption)) (by assumption)
    · exact any_none (rfl) HD HL hn ht ht1 ht3 ht4 hf16 hs8 HLV HN hc24 hc1 hp K4 h (Lib.hid (by assumption)) (by assumption)
  case rest =>
  obtain ⟨_, s9, vC9, vF9, d9, L9, M9, t9, hk9, hL9, hM9, hs9, ht9⟩ := hcut
  have K9 := Lib.hid hk9
  obtain ⟨aC9, cC9, rfl, _⟩ := own_in hk9.C
  obtain ⟨aF9, cF9, rfl, _⟩ := own_in hk9.F
  clear e0 e1 e2 e3 e4 x0 x1 x2 x3 x4 x5 x6 x7 fb K4 D4
  obtain ⟨g0, g1, g2, g3, g4⟩ := hk9.box
  obtain ⟨⟨x0, x1, x2, x3, xl⟩, x4⟩ := hk9.zer
  have q0 := x4 0
  have q1 := x4 1
  have q2 := x4 2
  have q3 := x4 3
  clear x4 hk9
  go_wp2_with fail
  obtain ⟨r0', r1', r2', r3'⟩ := read4 K9.out.zer.four (.string s9) (.slice aC9 L9.length cC9) (.slice aF9 M9.length cF9) (.int .i64 d9) _ rfl
  obtain ⟨f1, f2, f3⟩ := K9.out.fin hw (.string s9) (.slice aC9 L9.length cC9) (.slice aF9 M9.length cF9) (.int .i64 d9)
  exact bodyPost_ret (v := .agg #[.string s9, .slice aC9 L9.length cC9, .slice aF9 M9.length cF9, .int .i64 d9]) (by simp [results, Tryz.results42, go_sem, r0', r1', r2', r3']) rfl ⟨_, ⟨s9, L9, M9, d9⟩, t9, rfl, f3, hL9, hM9, hs9, by omega, HD.out.bar f1 f2, f2⟩
end Go.Proofs.YthgbhnedfdnfpaaGreatDoor

/- What a law draws of configurations: one, and places in it. -/
namespace Go.Proofs.YthgbhnedfdnfpaaGreatDoor
set_option maxRecDepth 100000
open Go.RowKit
set_option linter.unusedVariables false
set_option linter.unusedSimpArgs false

structure DC (w W : World) (a : Option Addr) (n cap : Nat) (zs : List Int) (t b r : Nat) (s : ByteArray) (vC vF : Value) (d : Int) (c : Cfg) (wx : World) : Prop where
  dr : Dr w wx a n cap zs t
  box : FourIs wx b (.string s) vC vF (.int .i64 d)
  zer : Zer wx r
  own : OwnCfg wx W.heap.size (.agg #[.string s, vC, vF, .int .i64 d]) c
  hb : w.heap.size < b
  hr : r < w.heap.size
  hW : w.heap.size < W.heap.size
section
variable {w W wx w' : World} {a : Option Addr} {n cap t t' b r : Nat} {zs : List Int} {s : ByteArray} {vC vF : Value} {d : Int} {c : Cfg}
theorem DC.bar (h : DC w W a n cap zs t b r s vC vF d c wx) (hd : Dr w w' a n cap zs t') (hb : Bar w.heap.size wx.heap.size wx w') : DC w W a n cap zs t' b r s vC vF d c w' := by
  have h1 := h.hb
  have h2 := h.hr
  obtain ⟨vc, vf, hv, o1, o2, o3⟩ := h.own
  exact ⟨hd, h.box.same (hb.block _ h.box.2.2.2.2 (by omega)) hb.size, h.zer.same (hb.block _ h.zer.1.2.2.2.2 (by omega)) hb.size, ⟨vc, vf, hv, own_bar o1 hb h.hW (Nat.le_refl _), own_bar o2 hb h.hW (Nat.le_refl _), o3⟩, h.hb, h.hr, h.hW⟩
theorem DC.drew (h : DC w W a n cap zs t b r s vC vF d c wx) : DC w W a n cap zs t b r s vC vF d c wx.drew :=
  h.bar (h.dr.bar h.dr.cur (Bar.of_below (below_drewN (Below.refl _ _) 1))) (Bar.of_below (below_drewN (Below.refl _ _) 1))
theorem DC.fin (h : DC w W a n cap zs t b r s vC vF d c wx) (u0 u1 u2 u3 : Value) :
    OwnCfg ((((wx.setCell ⟨r, 0, none⟩ u0).setCell ⟨r, 1, none⟩ u1).setCell ⟨r, 2, none⟩ u2).setCell ⟨r, 3, none⟩ u3) W.heap.size (.agg #[.string s, vC, vF, .int .i64 d]) c ∧
    FourIs ((((wx.setCell ⟨r, 0, none⟩ u0).setCell ⟨r, 1, none⟩ u1).setCell ⟨r, 2, none⟩ u2).setCell ⟨r, 3, none⟩ u3) b (.string s) vC vF (.int .i64 d) := by
  have h1 := h.hb
  have h2 := h.hr
  have h3 := h.hW
  exact ⟨h.own.set4 (by omega) _ _ _ _, (((h.box.far (by omega) _).far (by omega) _).far (by omega) _).far (by omega) _⟩
end
theorem dc_from {w0 v1 : World} {a : Option Addr} {n cap t r : Nat} {zs : List Int} {s : ByteArray} {vC vF : Value} {d : Int} {c : Cfg} (hz : Zer w0 r) (hr : r < w0.heap.size) (d1 : Dr w0 v1 a n cap zs t)
    (b1 : Bar w0.heap.size (w0.alloc (.cells #[.slice a n cap, .int .i64 0, .int .u64 0] 70)).heap.size (w0.alloc (.cells #[.slice a n cap, .int .i64 0, .int .u64 0] 70)) v1) (oc : OwnCfg v1 (w0.alloc (.cells #[.slice a n cap, .int .i64 0, .int .u64 0] 70)).heap.size (.agg #[.string s, vC, vF, .int .i64 d]) c) :
    DC w0 (w0.alloc (.cells #[.slice a n cap, .int .i64 0, .int .u64 0] 70)) a n cap zs t v1.heap.size r s vC vF d c (v1.alloc (.cells #[.string s, vC, vF, .int .i64 d] 26)) := by
  have hs := b1.size
  simp only [World.size_alloc] at hs
  have z1 := (hz.on (one_new2 w0 (.cells #[.slice a n cap, .int .i64 0, .int .u64 0] 70))).same (b1.block r (by simp only [World.size_alloc]; omega) (by omega)) b1.size
  exact ⟨d1.alloc _, (box_four (Below.refl _ _)).1, z1.on (one_new2 v1 _), oc.on (one_new2 v1 _), by omega, hr, by simp⟩
set_option maxHeartbeats 3200000 in
theorem dr_place {w wr : World} {a : Option Addr} {n cap t N cc : Nat} {zs : List Int} {s : ByteArray} {ad : Option Addr} {vF : Value} {d : Int} (HD : Hid (Dr w wr a n cap zs t)) (HL : Hid (zs.length = n)) (hn : n ≤ 9223372036854775807) (ht : t ≤ 900000) (hN : N ≤ 1000) :
    Calls Tryz.prog 43 #[.pointer (some ⟨w.heap.size, 0, none⟩), .agg #[.string s, .slice ad N cc, vF, .int .i64 d]] wr fun e w' => ∃ (q : Int) (t' : Nat), e = .returned (.int .i64 q) ∧ -1 ≤ q ∧ q ≤ N ∧ t' ≤ t + 4 ∧ Dr w w' a n cap zs t' ∧ Bar w.heap.size wr.heap.size wr w' := by
  have D0 := Lib.hid (HD.out.alloc (.cells #[.string s, .slice ad N cc, vF, .int .i64 d] 26))
  have B0 : Hid (Bar w.heap.size wr.heap.size wr (wr.alloc (.cells #[.string s, .slice ad N cc, vF, .int .i64 d] 26))) := Lib.hid (Bar.of_below (one_new2 wr _))
  go_enter Tryz.func43, Tryz.ntmps43
  go_wp2_with (go_at_call 73; refine (dr_pick1 ((N : Int) + 1) (by omega) (by omega) D0 HL hn (by omega)).mono ?_; rintro e v1 ⟨p, t1, rfl, ⟨p0, p1⟩, ht1, d1, o1⟩; have D1 := Lib.hid d1; have B1 := Lib.hid (B0.out.trans (Bar.of_only o1 _)); clear d1 o1; refine Hid.out ?_)
  refine Lib.hid ?_
  go_wp2_with (go_at_call 73; refine (dr_pick1 20 (by omega) (by omega) D1 HL hn (by omega)).mono ?_; rintro e v2 ⟨q, t2, rfl, ⟨q0, q1⟩, ht2, d2, o2⟩; have D2 := Lib.hid d2; have B2 := Lib.hid (B1.out.trans (Bar.of_only o2 _)); clear d2 o2; refine Hid.out ?_)
  refine Lib.hid ?_
  obtain ⟨z, hz⟩ : ∃ z, q.tdiv 19 = z := ⟨_, rfl⟩
  have hz01 : 0 ≤ z ∧ z ≤ 1 := by
    rw [← hz, Int.tdiv_eq_ediv_of_nonneg q0]
    omega
  obtain ⟨hz0, hz1⟩ := hz01
  have hwr : IntKind.i64.wrap z = z := IntWalk.i64_in _ (by omega)
  have hws : IntKind.i64.wrap (p - z) = p - z := IntWalk.i64_in _ (by omega)
  go_wp2_with fail
  go_ret
  exact ⟨_, t2, rfl, by omega, by omega, by omega, D2.out, B2.out⟩
def DrCI (w : World) (e : Ending) (w' : World) : Prop := ∃ (v : Value) (c : Cfg) (q : Int), e = .returned (.tuple #[v, .int .i64 q]) ∧ OwnCfg w' w.heap.size v c ∧ c.cs.length ≤ 25 ∧ c.fs.length ≤ 17 ∧ c.s.size ≤ 9 ∧ -1 ≤ q ∧ q ≤ c.cs.length ∧ Below w.heap.size w w'
set_option maxHeartbeats 6400000 in
theorem drawChild_any (w : World) (n cap : Nat) (a : Option Addr) (zs : List Int) (HL : Hid (zs.length = n)) (HI : Hid (In w a zs)) (hn : n ≤ 9223372036854775807) :
    Calls Tryz.prog 18 #[.slice a n cap] w (DrCI w) := by
  obtain ⟨w0, hw0⟩ : ∃ u, w.alloc (.cells #[.string ⟨#[]⟩, .slice none 0 0, .slice none 0 0, .int .i64 0] 26) = u := ⟨_, rfl⟩
  have b0 : Below w.heap.size w w0 := by rw [← hw0]; exact one_new2 _ _
  have Z0 : Hid (Zer w0 w.heap.size) := Lib.hid (by rw [← hw0]; exact ⟨(box_four (Below.refl _ _)).1, FroB.new _ _ _⟩)
  have hsz : w0.heap.size = w.heap.size + 1 := by rw [← hw0]; simp
  have D0 := Lib.hid (Dr.new (n := n) (cap := cap) (HI.out.below b0))
  have HCA := Lib.hid (dr_any D0 HL hn (by omega))
  have B0 := Lib.hid b0
  have HW := Lib.hid hw0
  have HSZ := Lib.hid hsz
  rw [hsz] at HCA
  clear hw0 b0
  go_enter Tryz.func18, Tryz.ntmps18
  go_wp2_with fail
  rw [HW.out]
  go_upto_region 3 with (go_at_call 42; refine HCA.out.mono ?_; rintro e v1 ⟨v, c, t1, rfl, oc, hc25, hf17, hs9, ht1, d1, b1⟩; obtain ⟨ac, cc, af, cf, rfl, _, _, _⟩ := own_cfg_parts oc; have DC1 := Lib.hid (dc_from Z0.out (by omega) d1 b1 oc); clear d1 b1 oc)
  obtain ⟨s, L, F, d⟩ := c
  simp only at hc25 hf17 hs9 DC1
  simp only
  obtain ⟨N, hN⟩ : ∃ N, L.length = N := ⟨_, rfl⟩
  obtain ⟨M, hM⟩ : ∃ M, F.length = M := ⟨_, rfl⟩
  have HN := Lib.hid hN
  rw [hN] at DC1 hc25
  rw [hM] at DC1
  rw [hN, hM]
  obtain ⟨W, hW⟩ : ∃ u, w0.alloc (.cells #[.slice a n cap, .int .i64 0, .int .u64 0] 70) = u := ⟨_, rfl⟩
  rw [hW] at DC1
  obtain ⟨v2, hv2⟩ : ∃ u, v1.alloc (.cells #[.string s, .slice ac N cc, .slice af M cf, .int .i64 d] 26) = u := ⟨_, rfl⟩
  rw [hv2] at DC1 ⊢
  obtain ⟨b, hb⟩ : ∃ u, v1.heap.size = u := ⟨_, rfl⟩
  rw [hb] at DC1 ⊢
  clear hN hM hW hv2 hb HCA D0 Z0
  have HS1 : Hid (∀ t' w', DC w0 W a n cap zs t' b w.heap.size s (.slice ac N cc) (.slice af M cf) d ⟨s, L, F, d⟩ w' → (w'.cell? ⟨b, 0, none⟩ = some (.string s) ∧ w'.cell? ⟨b, 1, none⟩ = some (.slice ac N cc) ∧ w'.cell? ⟨b, 2, none⟩ = some (.slice af M cf) ∧ w'.cell? ⟨b, 3, none⟩ = some (.int .i64 d))) := Lib.hid (fun t' w' h => ⟨h.box.1, h.box.2.1, h.box.2.2.1, h.box.2.2.2.1⟩)
  have KD : Hid (DC w0 W a n cap zs t1 b w.heap.size s (.slice ac N cc) (.slice af M cf) d ⟨s, L, F, d⟩ v2.drew) := Lib.hid DC1.out.drew
  refine AnyL.begin (S := fun w' => w'.cell? ⟨b, 0, none⟩ = some (.string s) ∧ w'.cell? ⟨b, 1, none⟩ = some (.slice ac N cc) ∧ w'.cell? ⟨b, 2, none⟩ = some (.slice af M cf) ∧ w'.cell? ⟨b, 3, none⟩ = some (.int .i64 d)) (T := fun _ => True) (b := 100) (by kernel_rfl) ?_
  obtain ⟨u0, hu0⟩ : ∃ u0, v2.drew = u0 := ⟨_, rfl⟩
  rw [hu0] at KD ⊢
  clear hu0 DC1
  have hB := And.intro (HS1.out _ _ KD.out) trivial
  refine AnyL.tS (i := 0) (d := 11) (v := ?_) rfl rfl (by kernel_rfl) (by kernel_rfl) (by kernel_rfl) (by decide) (fun _ _ _ h => h) (by rfl) ?_ (by assumption) ?_
  rotate_left
  · intro w' hSw
    (try dsimp only at hSw)
    obtain ⟨g0, g1, g2, g3⟩ := hSw
    go_simp
    try with_reducible rfl
  try simp only [Act.put, List.setIfInBounds_toArray, List.set_cons_zero, List.set_cons_succ]
  refine AnyL.tS (i := 1) (d := 12) (v := ?_) rfl rfl (by kernel_rfl) (by kernel_rfl) (by kernel_rfl) (by decide) (fun _ _ _ h => h) (by rfl) ?_ (by assumption) ?_
  rotate_left
  · intro w' hSw
    (try dsimp only at hSw)
    go_simp
    try with_reducible rfl
  try simp only [Act.put, List.setIfInBounds_toArray, List.set_cons_zero, List.set_cons_succ]
  refine AnyL.tS (i := 2) (d := 13) (v := ?_) rfl rfl (by kernel_rfl) (by kernel_rfl) (by kernel_rfl) (by decide) (fun _ _ _ h => h) (by rfl) ?_ (by assumption) ?_
  rotate_left
  · intro w' hSw
    (try dsimp only at hSw)
    obtain ⟨g0, g1, g2, g3⟩ := hSw
    go_simp
    try with_reducible rfl
  try simp only [Act.put, List.setIfInBounds_toArray, List.set_cons_zero, List.set_cons_succ]
  refine AnyL.ready (rs := [3]) (by kernel_rfl) (by simp) ?_
  refine (AllL.consN rfl (fun K' hK => ?_) AllL.nil)
  go_simp
  go_at_call 43
  have HP := dr_place (s := s) (ad := ac) (cc := cc) (vF := .slice af M cf) (d := d) (N := N) (Lib.hid KD.out.dr) HL hn (by omega) (by omega)
  rw [HSZ.out] at HP
  refine HP.mono ?_
  rintro e u1 ⟨q1, tq1, rfl, p10, p11, htq1, dq, bq⟩
  have K1 := Lib.hid (KD.out.bar dq (by rw [HSZ.out]; exact bq))
  clear dq bq HP
  refine hK.out _ _ ⟨HS1.out _ _ K1.out, trivial⟩ (fun hB => ?_)
  clear hK K'
  try simp only [Act.put, List.setIfInBounds_toArray, List.set_cons_zero, List.set_cons_succ]
  obtain ⟨⟨z0, z1, z2, z3, zl⟩, zf⟩ := K1.out.zer
  have y0 := zf 0
  have y1 := zf 1
  have y2 := zf 2
  have y3 := zf 3
  refine AnyL.ready (rs := [4]) (by kernel_rfl) (by simp) ?_
  refine (AllL.consN rfl (fun K' hK => ?_) AllL.nil)
  go_simp
  have FI := Lib.hid (K1.out.fin (.string s) (.slice ac N cc) (.slice af M cf) (.int .i64 d))
  refine hK.out _ _ ⟨⟨FI.out.2.1, FI.out.2.2.1, FI.out.2.2.2.1, FI.out.2.2.2.2.1⟩, trivial⟩ (fun hB => ?_)
  clear hK K'
  try simp only [Act.put, List.setIfInBounds_toArray, List.set_cons_zero, List.set_cons_succ]
  refine AnyL.tS (i := 5) (d := 3) (v := ?_) rfl rfl (by kernel_rfl) (by kernel_rfl) (by kernel_rfl) (by decide) (fun _ _ _ h => h) (by rfl) ?_ (by assumption) ?_
  rotate_left
  · intro w' hSw
    (try dsimp only at hSw)
    go_simp
    try with_reducible rfl
  try simp only [Act.put, List.setIfInBounds_toArray, List.set_cons_zero, List.set_cons_succ]
  refine AnyL.done (by kernel_rfl) ?_ _
  go_wp2_with fail
  obtain ⟨r0, r1, r2, r3⟩ := read4 K1.out.zer.four (.string s) (.slice ac N cc) (.slice af M cf) (.int .i64 d) _ rfl
  exact bodyPost_ret (v := .tuple #[.agg #[.string s, .slice ac N cc, .slice af M cf, .int .i64 d], .int .i64 q1]) (by simp [results, Tryz.results18, go_sem, r0, r1, r2, r3]) rfl ⟨_, ⟨s, L, F, d⟩, q1, rfl, FI.out.1.base (by have := K1.out.hW; omega), by rw [HN.out]; exact hc25, hf17, hs9, p10, by rw [HN.out]; exact p11, set4 (B0.out.trans (K1.out.dr.bel.mono (by omega))) _ (Nat.le_refl _) _ _ _ _⟩
end Go.Proofs.YthgbhnedfdnfpaaGreatDoor

/- What the law of printed lines draws. -/
namespace Go.Proofs.YthgbhnedfdnfpaaGreatDoor
set_option maxRecDepth 100000
open Go.RowKit
set_option linter.unusedVariables false
set_option linter.unusedSimpArgs false

set_option maxHeartbeats 1600000 in
theorem drawLines_any (w : World) (n cap : Nat) (a : Option Addr) (zs : List Int) (HL : Hid (zs.length = n)) (HI : Hid (In w a zs)) (hn : n ≤ 9223372036854775807) :
    Calls Tryz.prog 4 #[.slice a n cap] w (DrCI w) := by
  have b0 := one_new2 w (.cells #[.string ⟨#[]⟩, .slice none 0 0, .slice none 0 0, .int .i64 0] 26)
  have Z0 : Hid (Zer (w.alloc (.cells #[.string ⟨#[]⟩, .slice none 0 0, .slice none 0 0, .int .i64 0] 26)) w.heap.size) := Lib.hid ⟨(box_four (Below.refl _ _)).1, FroB.new _ _ _⟩
  have HC := Lib.hid (drawChild_any (w.alloc (.cells #[.string ⟨#[]⟩, .slice none 0 0, .slice none 0 0, .int .i64 0] 26)) n cap a zs HL (Lib.hid (HI.out.below b0)) hn)
  have B0 := Lib.hid b0
  clear b0
  go_enter Tryz.func4, Tryz.ntmps4
  go_wp2_with (go_at_call 18; refine HC.out.mono ?_; rintro e v1 ⟨v, c, q, rfl, oc, h1, h2, h3, h4, h5, b⟩; obtain ⟨ac, cc, af, cf, rfl, _, _, _⟩ := own_cfg_parts oc; have OC := Lib.hid oc; have ZZ := Lib.hid (Z0.out.on b); have BB := Lib.hid (B0.out.trans (b.mono (by simp))); clear oc b; obtain ⟨⟨z0, z1, z2, z3, zl⟩, zf⟩ := ZZ.out; have y0 := zf 0; have y1 := zf 1; have y2 := zf 2; have y3 := zf 3; clear zf)
  obtain ⟨r0, r1, r2, r3⟩ := read4 ZZ.out.four (.string c.s) (.slice ac c.cs.length cc) (.slice af c.fs.length cf) (.int .i64 c.d) _ rfl
  have hz : (w.alloc (.cells #[.string ⟨#[]⟩, .slice none 0 0, .slice none 0 0, .int .i64 0] 26)).heap.size = w.heap.size + 1 := by simp
  rw [hz] at OC
  exact bodyPost_ret (v := .tuple #[.agg #[.string c.s, .slice ac c.cs.length cc, .slice af c.fs.length cf, .int .i64 c.d], .int .i64 q]) (by simp [results, Tryz.results4, go_sem, r0, r1, r2, r3]) rfl ⟨_, c, q, rfl, (OC.out.set4 (Nat.lt_succ_self _) _ _ _ _).base (Nat.le_succ _), h1, h2, h3, h4, h5, set4 BB.out _ (Nat.le_refl _) _ _ _ _⟩
end Go.Proofs.YthgbhnedfdnfpaaGreatDoor

/- Chapter 4's ways up. -/
namespace Go.Proofs.YthgbhnedfdnfpaaGreatDoor
set_option maxRecDepth 100000
open Go.RowKit
set_option linter.unusedVariables false

end Go.Proofs.YthgbhnedfdnfpaaGreatDoor

/- Chapter 4: whether a class is below another one. -/
namespace Go.Proofs.YthgbhnedfdnfpaaGreatDoor
set_option maxRecDepth 100000
open Go.RowKit
set_option linter.unusedVariables false

theorem EightB.far {w : World} {b : Nat} {x : Cls} (h : EightB w b x) {c : Nat} (o : Nat) (hc : c ≠ b) (v : Value) : EightB (w.setCell ⟨c, o, none⟩ v) b x := by
  obtain ⟨h0, h1, h2, h3, h4, h5, h6, h7⟩ := h
  have q := fun k => World.cell?_setCell_far w ⟨c, o, none⟩ ⟨b, k, none⟩ v hc
  exact ⟨(q _).trans h0, (q _).trans h1, (q _).trans h2, (q _).trans h3, (q _).trans h4, (q _).trans h5, (q _).trans h6, (q _).trans h7⟩
end Go.Proofs.YthgbhnedfdnfpaaGreatDoor

/- Rows of places as a law's check reads them: qInts, qHas. -/
namespace Go.Proofs.YthgbhnedfdnfpaaGreatDoor
set_option maxRecDepth 100000
open Go.RowKit
set_option linter.unusedVariables false
set_option linter.unusedSimpArgs false

def NatV (w : World) (v : Value) (K : List Nat) : Prop := ∃ ad c, v = .slice ad K.length c ∧ (0 < K.length → ∃ g o, ad = some ⟨g, o, none⟩ ∧ g < w.heap.size ∧ ∀ k, k < K.length → w.cell? ⟨g, o + k, none⟩ = some (.int .i64 ((K.getD k 0 : Nat) : Int)))
theorem NatV.below {w w' : World} {v : Value} {K : List Nat} (h : NatV w v K) (b : Below w.heap.size w w') : NatV w' v K := by
  obtain ⟨ad, c, hv, hk⟩ := h
  refine ⟨ad, c, hv, fun h0 => ?_⟩
  obtain ⟨g, o, ha, hg, hc⟩ := hk h0
  exact ⟨g, o, ha, Nat.lt_of_lt_of_le hg b.size, fun k hk => (b.cell (p := ⟨g, o + k, none⟩) hg).trans (hc k hk)⟩
theorem NatV.own {w : World} {B : Nat} {v : Value} {K : List Nat} (h : w.ownsRow B 3 1 v K.length (nv K)) : NatV w v K := by
  obtain ⟨ad, c, rfl, hi⟩ := own_in h
  refine ⟨ad, c, rfl, fun h0 => ?_⟩
  obtain ⟨g, ha, ht, hg⟩ := hi h0
  exact ⟨g, 0, ha, hg, fun k hk => by rw [Nat.zero_add]; exact ht.at k (nv_get K k hk)⟩
theorem NatV.tail {w : World} {g o c k : Nat} {K : List Nat} (h : NatV w (.slice (some ⟨g, o, none⟩) (K.length + 1) c) (k :: K)) (c' : Nat) : NatV w (.slice (some ⟨g, o + 1, none⟩) K.length c') K := by
  obtain ⟨ad, c2, hv, hk⟩ := h
  cases hv
  obtain ⟨g', o', ha, hg, hc⟩ := hk (by simp)
  cases ha
  refine ⟨_, c', rfl, fun h0 => ⟨g, o + 1, rfl, hg, fun j hj => ?_⟩⟩
  have := hc (j + 1) (by simp; omega)
  rw [show o + 1 + j = o + (j + 1) by omega]
  simpa using this
def Nat0V (w : World) (v : Value) (K : List Nat) : Prop := ∃ ad c, v = .slice ad K.length c ∧ K.length ≤ c ∧ (0 < K.length → ∃ g, ad = some ⟨g, 0, none⟩ ∧ g < w.heap.size ∧ ∀ k, k < K.length → w.cell? ⟨g, k, none⟩ = some (.int .i64 ((K.getD k 0 : Nat) : Int)))
theorem Nat0V.below {w w' : World} {v : Value} {K : List Nat} (h : Nat0V w v K) (b : Below w.heap.size w w') : Nat0V w' v K := by
  obtain ⟨ad, c, hv, hc, hk⟩ := h
  refine ⟨ad, c, hv, hc, fun h0 => ?_⟩
  obtain ⟨g, ha, hg, hx⟩ := hk h0
  exact ⟨g, ha, Nat.lt_of_lt_of_le hg b.size, fun k hk => (b.cell (p := ⟨g, k, none⟩) hg).trans (hx k hk)⟩
theorem Nat0V.natv {w : World} {v : Value} {K : List Nat} (h : Nat0V w v K) : NatV w v K := by
  obtain ⟨ad, c, hv, hc, hk⟩ := h
  refine ⟨ad, c, hv, fun h0 => ?_⟩
  obtain ⟨g, ha, hg, hx⟩ := hk h0
  exact ⟨g, 0, ha, hg, fun k hk => by rw [Nat.zero_add]; exact hx k hk⟩
theorem Nat0V.own {w : World} {B : Nat} {v : Value} {K : List Nat} (h : w.ownsRow B 3 1 v K.length (nv K)) : Nat0V w v K := by
  have h2 := h
  obtain ⟨ad, c, rfl, hi⟩ := own_in h
  rcases h2.2 with ⟨hv, hn⟩ | ⟨g, cap, cur, hv, _, _, hcap, _⟩
  · injection hv with e1 e2 e3
    exact ⟨_, _, rfl, by omega, fun h0 => by omega⟩
  · injection hv with e1 e2 e3
    refine ⟨_, _, rfl, by omega, fun h0 => ?_⟩
    obtain ⟨g', ha, ht, hg⟩ := hi h0
    exact ⟨g', ha, hg, fun k hk => ht.at k (nv_get K k hk)⟩
set_option maxHeartbeats 3200000 in
theorem qNats_any (v v' : Value) (K : List Nat) (w : World) (h : Hid (NatV w v K)) (h' : Hid (NatV w v' K)) (hm : K.length ≤ 1048576) :
    Calls Tryz.prog 13 #[v, v'] w (SaysB w true) := by
  obtain ⟨ad, c, rfl, hv⟩ := h.out
  obtain ⟨ad', c', rfl, hv'⟩ := h'.out
  have HV := Lib.hid hv
  have HV' := Lib.hid hv'
  clear hv hv' h h'
  obtain ⟨n, hn⟩ : ∃ n, K.length = n := ⟨_, rfl⟩
  rw [hn] at HV HV' hm ⊢
  clear hn
  go_enter Tryz.func13, Tryz.ntmps13
  go_wp2_with fail
  go_loopw [13] (fun i wr => ∃ k : Nat, k ≤ n ∧ i = .int .i64 k ∧ Below w.heap.size w wr) (fun i _ => n - (intOf i).toNat)
  case atStart => exact ⟨0, Nat.zero_le _, rfl, Below.refl _ _⟩
  case round =>
    obtain ⟨k, hk, rfl, hb⟩ := hrel
    have HB := Lib.hid hb
    by_cases hlt : k < n
    · obtain ⟨g, o, rfl, hg, hc⟩ := HV.out (by omega)
      obtain ⟨g', o', rfl, hg', hc'⟩ := HV'.out (by omega)
      have a0 := (hb.cell (p := ⟨g, o + k, none⟩) hg).trans (hc k (by omega))
      have a1 := (hb.cell (p := ⟨g', o' + k, none⟩) hg').trans (hc' k (by omega))
      generalize ((K.getD k 0 : Nat) : Int) = z at a0 a1
      clear hc hc' hb
      go_wp2_with fail
      go_quiet (fail)
      go_wp2_with fail
      go_roundw
      case rel => exact ⟨k + 1, by omega, by go_num, HB.out.trans (below_drewN (Below.refl _ _) _)⟩
      case measure => simp [intOf]; omega
    · clear hb
      go_wp2_with fail
      go_ret
      exact ⟨rfl, HB.out⟩
end Go.Proofs.YthgbhnedfdnfpaaGreatDoor
