import Derived.Test.YthgbhnedfdnfpaaDoorPkzh
/- What a law draws of configurations: one, and places in it. -/
namespace Go.Proofs.YthgbhnedfdnfpaaDoor
set_option maxRecDepth 100000
open Go.RowKit
set_option linter.unusedVariables false
set_option linter.unusedSimpArgs false

/-- a drawn configuration in box b, the result's box r still empty -/
structure DC (w W : World) (a : Option Addr) (n cap : Nat) (zs : List Int) (t b r : Nat) (s : ByteArray) (vC vF : Value) (d : Int) (c : Cfg) (wx : World) : Prop where
  dr : Dr w wx a n cap zs t
  box : FourIs wx b (.string s) vC vF (.int .i64 d)
  zer : Zer wx r
  own : OwnCfg wx W.heap.size (.agg #[.string s, vC, vF, .int .i64 d]) c
  hb : w.heap.size < b
  hr : r < w.heap.size
  hW : w.heap.size < W.heap.size
section
variable {w W wx w' : World} {a : Option Addr} {n cap t t' b r : Nat} {zs : List Int} {s : ByteArray} {vC vF : Value} {d : Int} {c : Cfg}
theorem DC.bar (h : DC w W a n cap zs t b r s vC vF d c wx) (hd : Dr w w' a n cap zs t') (hb : Bar w.heap.size wx.heap.size wx w') : DC w W a n cap zs t' b r s vC vF d c w' := by
  have h1 := h.hb
  have h2 := h.hr
  obtain ⟨vc, vf, hv, o1, o2, o3⟩ := h.own
  exact ⟨hd, h.box.same (hb.block _ h.box.2.2.2.2 (by omega)) hb.size, h.zer.same (hb.block _ h.zer.1.2.2.2.2 (by omega)) hb.size, ⟨vc, vf, hv, own_bar o1 hb h.hW (Nat.le_refl _), own_bar o2 hb h.hW (Nat.le_refl _), o3⟩, h.hb, h.hr, h.hW⟩
theorem DC.drew (h : DC w W a n cap zs t b r s vC vF d c wx) : DC w W a n cap zs t b r s vC vF d c wx.drew :=
  h.bar (h.dr.bar h.dr.cur (Bar.of_below (below_drewN (Below.refl _ _) 1))) (Bar.of_below (below_drewN (Below.refl _ _) 1))
/-- the result filled -/
theorem DC.fin (h : DC w W a n cap zs t b r s vC vF d c wx) (u0 u1 u2 u3 : Value) :
    OwnCfg ((((wx.setCell ⟨r, 0, none⟩ u0).setCell ⟨r, 1, none⟩ u1).setCell ⟨r, 2, none⟩ u2).setCell ⟨r, 3, none⟩ u3) W.heap.size (.agg #[.string s, vC, vF, .int .i64 d]) c ∧
    FourIs ((((wx.setCell ⟨r, 0, none⟩ u0).setCell ⟨r, 1, none⟩ u1).setCell ⟨r, 2, none⟩ u2).setCell ⟨r, 3, none⟩ u3) b (.string s) vC vF (.int .i64 d) := by
  have h1 := h.hb
  have h2 := h.hr
  have h3 := h.hW
  exact ⟨h.own.set4 (by omega) _ _ _ _, (((h.box.far (by omega) _).far (by omega) _).far (by omega) _).far (by omega) _⟩
end
theorem dc_from {w0 v1 : World} {a : Option Addr} {n cap t r : Nat} {zs : List Int} {s : ByteArray} {vC vF : Value} {d : Int} {c : Cfg} (hz : Zer w0 r) (hr : r < w0.heap.size) (d1 : Dr w0 v1 a n cap zs t)
    (b1 : Bar w0.heap.size (w0.alloc (.cells #[.slice a n cap, .int .i64 0, .int .u64 0] 60)).heap.size (w0.alloc (.cells #[.slice a n cap, .int .i64 0, .int .u64 0] 60)) v1) (oc : OwnCfg v1 (w0.alloc (.cells #[.slice a n cap, .int .i64 0, .int .u64 0] 60)).heap.size (.agg #[.string s, vC, vF, .int .i64 d]) c) :
    DC w0 (w0.alloc (.cells #[.slice a n cap, .int .i64 0, .int .u64 0] 60)) a n cap zs t v1.heap.size r s vC vF d c (v1.alloc (.cells #[.string s, vC, vF, .int .i64 d] 26)) := by
  have hs := b1.size
  simp only [World.size_alloc] at hs
  have z1 := (hz.on (one_new2 w0 (.cells #[.slice a n cap, .int .i64 0, .int .u64 0] 60))).same (b1.block r (by simp only [World.size_alloc]; omega) (by omega)) b1.size
  exact ⟨d1.alloc _, (box_four (Below.refl _ _)).1, z1.on (one_new2 v1 _), oc.on (one_new2 v1 _), by omega, hr, by simp⟩
set_option maxHeartbeats 3200000 in
theorem dr_place {w wr : World} {a : Option Addr} {n cap t N cc : Nat} {zs : List Int} {s : ByteArray} {ad : Option Addr} {vF : Value} {d : Int} (HD : Hid (Dr w wr a n cap zs t)) (HL : Hid (zs.length = n)) (hn : n ≤ 9223372036854775807) (ht : t ≤ 900000) (hN : N ≤ 1000) :
    Calls Tryd.prog 36 #[.pointer (some ⟨w.heap.size, 0, none⟩), .agg #[.string s, .slice ad N cc, vF, .int .i64 d]] wr fun e w' => ∃ (q : Int) (t' : Nat), e = .returned (.int .i64 q) ∧ -1 ≤ q ∧ q ≤ N ∧ t' ≤ t + 4 ∧ Dr w w' a n cap zs t' ∧ Bar w.heap.size wr.heap.size wr w' := by
  have D0 := Lib.hid (HD.out.alloc (.cells #[.string s, .slice ad N cc, vF, .int .i64 d] 26))
  have B0 : Hid (Bar w.heap.size wr.heap.size wr (wr.alloc (.cells #[.string s, .slice ad N cc, vF, .int .i64 d] 26))) := Lib.hid (Bar.of_below (one_new2 wr _))
  go_enter Tryd.func36, Tryd.ntmps36
  go_wp2_with (go_at_call 57; refine (dr_pick1 ((N : Int) + 1) (by omega) (by omega) D0 HL hn (by omega)).mono ?_; rintro e v1 ⟨p, t1, rfl, ⟨p0, p1⟩, ht1, d1, o1⟩; have D1 := Lib.hid d1; have B1 := Lib.hid (B0.out.trans (Bar.of_only o1 _)); clear d1 o1; refine Hid.out ?_)
  refine Lib.hid ?_
  go_wp2_with (go_at_call 57; refine (dr_pick1 20 (by omega) (by omega) D1 HL hn (by omega)).mono ?_; rintro e v2 ⟨q, t2, rfl, ⟨q0, q1⟩, ht2, d2, o2⟩; have D2 := Lib.hid d2; have B2 := Lib.hid (B1.out.trans (Bar.of_only o2 _)); clear d2 o2; refine Hid.out ?_)
  refine Lib.hid ?_
  obtain ⟨z, hz⟩ : ∃ z, q.tdiv 19 = z := ⟨_, rfl⟩
  have hz01 : 0 ≤ z ∧ z ≤ 1 := by
    rw [← hz, Int.tdiv_eq_ediv_of_nonneg q0]
    omega
  obtain ⟨hz0, hz1⟩ := hz01
  have hwr : IntKind.i64.wrap z = z := IntWalk.i64_in _ (by omega)
  have hws : IntKind.i64.wrap (p - z) = p - z := IntWalk.i64_in _ (by omega)
  go_wp2_with fail
  go_ret
  exact ⟨_, t2, rfl, by omega, by omega, by omega, D2.out, B2.out⟩
/-- a configuration and a place were drawn -/
def DrCI (w : World) (e : Ending) (w' : World) : Prop := ∃ (v : Value) (c : Cfg) (q : Int), e = .returned (.tuple #[v, .int .i64 q]) ∧ OwnCfg w' w.heap.size v c ∧ c.cs.length ≤ 25 ∧ c.fs.length ≤ 17 ∧ c.s.size ≤ 9 ∧ -1 ≤ q ∧ q ≤ c.cs.length ∧ Below w.heap.size w w'
def DrCII (w : World) (e : Ending) (w' : World) : Prop := ∃ (v : Value) (c : Cfg) (p q : Int), e = .returned (.tuple #[v, .int .i64 p, .int .i64 q]) ∧ OwnCfg w' w.heap.size v c ∧ c.cs.length ≤ 25 ∧ c.fs.length ≤ 17 ∧ c.s.size ≤ 9 ∧ -1 ≤ p ∧ p ≤ c.cs.length ∧ -1 ≤ q ∧ q ≤ c.cs.length ∧ Below w.heap.size w w'
set_option maxHeartbeats 6400000 in
theorem drawChild_any (w : World) (n cap : Nat) (a : Option Addr) (zs : List Int) (HL : Hid (zs.length = n)) (HI : Hid (In w a zs)) (hn : n ≤ 9223372036854775807) :
    Calls Tryd.prog 20 #[.slice a n cap] w (DrCI w) := by
  obtain ⟨w0, hw0⟩ : ∃ u, w.alloc (.cells #[.string ⟨#[]⟩, .slice none 0 0, .slice none 0 0, .int .i64 0] 26) = u := ⟨_, rfl⟩
  have b0 : Below w.heap.size w w0 := by rw [← hw0]; exact one_new2 _ _
  have Z0 : Hid (Zer w0 w.heap.size) := Lib.hid (by rw [← hw0]; exact ⟨(box_four (Below.refl _ _)).1, FroB.new _ _ _⟩)
  have hsz : w0.heap.size = w.heap.size + 1 := by rw [← hw0]; simp
  have D0 := Lib.hid (Dr.new (n := n) (cap := cap) (HI.out.below b0))
  have HCA := Lib.hid (dr_any D0 HL hn (by omega))
  have B0 := Lib.hid b0
  have HW := Lib.hid hw0
  have HSZ := Lib.hid hsz
  rw [hsz] at HCA
  clear hw0 b0
  go_enter Tryd.func20, Tryd.ntmps20
  go_wp2_with fail
  rw [HW.out]
  go_upto_region 3 with (go_at_call 35; refine HCA.out.mono ?_; rintro e v1 ⟨v, c, t1, rfl, oc, hc25, hf17, hs9, ht1, d1, b1⟩; obtain ⟨ac, cc, af, cf, rfl, _, _, _⟩ := own_cfg_parts oc; have DC1 := Lib.hid (dc_from Z0.out (by omega) d1 b1 oc); clear d1 b1 oc)
  obtain ⟨s, L, F, d⟩ := c
  simp only at hc25 hf17 hs9 DC1
  simp only
  obtain ⟨N, hN⟩ : ∃ N, L.length = N := ⟨_, rfl⟩
  obtain ⟨M, hM⟩ : ∃ M, F.length = M := ⟨_, rfl⟩
  have HN := Lib.hid hN
  rw [hN] at DC1 hc25
  rw [hM] at DC1
  rw [hN, hM]
  obtain ⟨W, hW⟩ : ∃ u, w0.alloc (.cells #[.slice a n cap, .int .i64 0, .int .u64 0] 60) = u := ⟨_, rfl⟩
  rw [hW] at DC1
  obtain ⟨v2, hv2⟩ : ∃ u, v1.alloc (.cells #[.string s, .slice ac N cc, .slice af M cf, .int .i64 d] 26) = u := ⟨_, rfl⟩
  rw [hv2] at DC1 ⊢
  obtain ⟨b, hb⟩ : ∃ u, v1.heap.size = u := ⟨_, rfl⟩
  rw [hb] at DC1 ⊢
  clear hN hM hW hv2 hb HCA D0 Z0
  have HS1 : Hid (∀ t' w', DC w0 W a n cap zs t' b w.heap.size s (.slice ac N cc) (.slice af M cf) d ⟨s, L, F, d⟩ w' → (w'.cell? ⟨b, 0, none⟩ = some (.string s) ∧ w'.cell? ⟨b, 1, none⟩ = some (.slice ac N cc) ∧ w'.cell? ⟨b, 2, none⟩ = some (.slice af M cf) ∧ w'.cell? ⟨b, 3, none⟩ = some (.int .i64 d))) := Lib.hid (fun t' w' h => ⟨h.box.1, h.box.2.1, h.box.2.2.1, h.box.2.2.2.1⟩)
  have KD : Hid (DC w0 W a n cap zs t1 b w.heap.size s (.slice ac N cc) (.slice af M cf) d ⟨s, L, F, d⟩ v2.drew) := Lib.hid DC1.out.drew
  refine AnyL.begin (S := fun w' => w'.cell? ⟨b, 0, none⟩ = some (.string s) ∧ w'.cell? ⟨b, 1, none⟩ = some (.slice ac N cc) ∧ w'.cell? ⟨b, 2, none⟩ = some (.slice af M cf) ∧ w'.cell? ⟨b, 3, none⟩ = some (.int .i64 d)) (T := fun _ => True) (b := 100) (by kernel_rfl) ?_
  obtain ⟨u0, hu0⟩ : ∃ u0, v2.drew = u0 := ⟨_, rfl⟩
  rw [hu0] at KD ⊢
  clear hu0 DC1
  have hB := And.intro (HS1.out _ _ KD.out) trivial
  refine AnyL.tS (i := 0) (d := 11) (v := ?_) rfl rfl (by kernel_rfl) (by kernel_rfl) (by kernel_rfl) (by decide) (fun _ _ _ h => h) (by rfl) ?_ (by assumption) ?_
  rotate_left
  · intro w' hSw
    (try dsimp only at hSw)
    obtain ⟨g0, g1, g2, g3⟩ := hSw
    go_simp
    try with_reducible rfl
  try simp only [Act.put, List.setIfInBounds_toArray, List.set_cons_zero, List.set_cons_succ]
  refine AnyL.tS (i := 1) (d := 12) (v := ?_) rfl rfl (by kernel_rfl) (by kernel_rfl) (by kernel_rfl) (by decide) (fun _ _ _ h => h) (by rfl) ?_ (by assumption) ?_
  rotate_left
  · intro w' hSw
    (try dsimp only at hSw)
    go_simp
    try with_reducible rfl
  try simp only [Act.put, List.setIfInBounds_toArray, List.set_cons_zero, List.set_cons_succ]
  refine AnyL.tS (i := 2) (d := 13) (v := ?_) rfl rfl (by kernel_rfl) (by kernel_rfl) (by kernel_rfl) (by decide) (fun _ _ _ h => h) (by rfl) ?_ (by assumption) ?_
  rotate_left
  · intro w' hSw
    (try dsimp only at hSw)
    obtain ⟨g0, g1, g2, g3⟩ := hSw
    go_simp
    try with_reducible rfl
  try simp only [Act.put, List.setIfInBounds_toArray, List.set_cons_zero, List.set_cons_succ]
  refine AnyL.ready (rs := [3]) (by kernel_rfl) (by simp) ?_
  refine (AllL.consN rfl (fun K' hK => ?_) AllL.nil)
  go_simp
  go_at_call 36
  have HP := dr_place (s := s) (ad := ac) (cc := cc) (vF := .slice af M cf) (d := d) (N := N) (Lib.hid KD.out.dr) HL hn (by omega) (by omega)
  rw [HSZ.out] at HP
  refine HP.mono ?_
  rintro e u1 ⟨q1, tq1, rfl, p10, p11, htq1, dq, bq⟩
  have K1 := Lib.hid (KD.out.bar dq (by rw [HSZ.out]; exact bq))
  clear dq bq HP
  refine hK.out _ _ ⟨HS1.out _ _ K1.out, trivial⟩ (fun hB => ?_)
  clear hK K'
  try simp only [Act.put, List.setIfInBounds_toArray, List.set_cons_zero, List.set_cons_succ]
  obtain ⟨⟨z0, z1, z2, z3, zl⟩, zf⟩ := K1.out.zer
  have y0 := zf 0
  have y1 := zf 1
  have y2 := zf 2
  have y3 := zf 3
  refine AnyL.ready (rs := [4]) (by kernel_rfl) (by simp) ?_
  refine (AllL.consN rfl (fun K' hK => ?_) AllL.nil)
  go_simp
  have FI := Lib.hid (K1.out.fin (.string s) (.slice ac N cc) (.slice af M cf) (.int .i64 d))
  refine hK.out _ _ ⟨⟨FI.out.2.1, FI.out.2.2.1, FI.out.2.2.2.1, FI.out.2.2.2.2.1⟩, trivial⟩ (fun hB => ?_)
  clear hK K'
  try simp only [Act.put, List.setIfInBounds_toArray, List.set_cons_zero, List.set_cons_succ]
  refine AnyL.tS (i := 5) (d := 3) (v := ?_) rfl rfl (by kernel_rfl) (by kernel_rfl) (by kernel_rfl) (by decide) (fun _ _ _ h => h) (by rfl) ?_ (by assumption) ?_
  rotate_left
  · intro w' hSw
    (try dsimp only at hSw)
    go_simp
    try with_reducible rfl
  try simp only [Act.put, List.setIfInBounds_toArray, List.set_cons_zero, List.set_cons_succ]
  refine AnyL.done (by kernel_rfl) ?_ _
  go_wp2_with fail
  obtain ⟨r0, r1, r2, r3⟩ := read4 K1.out.zer.four (.string s) (.slice ac N cc) (.slice af M cf) (.int .i64 d) _ rfl
  exact bodyPost_ret (v := .tuple #[.agg #[.string s, .slice ac N cc, .slice af M cf, .int .i64 d], .int .i64 q1]) (by simp [results, Tryd.results20, go_sem, r0, r1, r2, r3]) rfl ⟨_, ⟨s, L, F, d⟩, q1, rfl, FI.out.1.base (by have := K1.out.hW; omega), by rw [HN.out]; exact hc25, hf17, hs9, p10, by rw [HN.out]; exact p11, set4 (B0.out.trans (K1.out.dr.bel.mono (by omega))) _ (Nat.le_refl _) _ _ _ _⟩
set_option maxHeartbeats 1600000 in
theorem drawWayUp_any (w : World) (n cap : Nat) (a : Option Addr) (zs : List Int) (HL : Hid (zs.length = n)) (HI : Hid (In w a zs)) (hn : n ≤ 9223372036854775807) :
    Calls Tryd.prog 4 #[.slice a n cap] w (DrCI w) := by
  have b0 := one_new2 w (.cells #[.string ⟨#[]⟩, .slice none 0 0, .slice none 0 0, .int .i64 0] 26)
  have Z0 : Hid (Zer (w.alloc (.cells #[.string ⟨#[]⟩, .slice none 0 0, .slice none 0 0, .int .i64 0] 26)) w.heap.size) := Lib.hid ⟨(box_four (Below.refl _ _)).1, FroB.new _ _ _⟩
  have HC := Lib.hid (drawChild_any (w.alloc (.cells #[.string ⟨#[]⟩, .slice none 0 0, .slice none 0 0, .int .i64 0] 26)) n cap a zs HL (Lib.hid (HI.out.below b0)) hn)
  have B0 := Lib.hid b0
  clear b0
  go_enter Tryd.func4, Tryd.ntmps4
  go_wp2_with (go_at_call 20; refine HC.out.mono ?_; rintro e v1 ⟨v, c, q, rfl, oc, h1, h2, h3, h4, h5, b⟩; obtain ⟨ac, cc, af, cf, rfl, _, _, _⟩ := own_cfg_parts oc; have OC := Lib.hid oc; have ZZ := Lib.hid (Z0.out.on b); have BB := Lib.hid (B0.out.trans (b.mono (by simp))); clear oc b; obtain ⟨⟨z0, z1, z2, z3, zl⟩, zf⟩ := ZZ.out; have y0 := zf 0; have y1 := zf 1; have y2 := zf 2; have y3 := zf 3; clear zf)
  obtain ⟨r0, r1, r2, r3⟩ := read4 ZZ.out.four (.string c.s) (.slice ac c.cs.length cc) (.slice af c.fs.length cf) (.int .i64 c.d) _ rfl
  have hz : (w.alloc (.cells #[.string ⟨#[]⟩, .slice none 0 0, .slice none 0 0, .int .i64 0] 26)).heap.size = w.heap.size + 1 := by simp
  rw [hz] at OC
  exact bodyPost_ret (v := .tuple #[.agg #[.string c.s, .slice ac c.cs.length cc, .slice af c.fs.length cf, .int .i64 c.d], .int .i64 q]) (by simp [results, Tryd.results4, go_sem, r0, r1, r2, r3]) rfl ⟨_, c, q, rfl, (OC.out.set4 (Nat.lt_succ_self _) _ _ _ _).base (Nat.le_succ _), h1, h2, h3, h4, h5, set4 BB.out _ (Nat.le_refl _) _ _ _ _⟩
set_option maxHeartbeats 6400000 in
theorem drawIsBelow_any (w : World) (n cap : Nat) (a : Option Addr) (zs : List Int) (HL : Hid (zs.length = n)) (HI : Hid (In w a zs)) (hn : n ≤ 9223372036854775807) :
    Calls Tryd.prog 15 #[.slice a n cap] w (DrCII w) := by
  obtain ⟨w0, hw0⟩ : ∃ u, w.alloc (.cells #[.string ⟨#[]⟩, .slice none 0 0, .slice none 0 0, .int .i64 0] 26) = u := ⟨_, rfl⟩
  have b0 : Below w.heap.size w w0 := by rw [← hw0]; exact one_new2 _ _
  have Z0 : Hid (Zer w0 w.heap.size) := Lib.hid (by rw [← hw0]; exact ⟨(box_four (Below.refl _ _)).1, FroB.new _ _ _⟩)
  have hsz : w0.heap.size = w.heap.size + 1 := by rw [← hw0]; simp
  have D0 := Lib.hid (Dr.new (n := n) (cap := cap) (HI.out.below b0))
  have HCA := Lib.hid (dr_any D0 HL hn (by omega))
  have B0 := Lib.hid b0
  have HW := Lib.hid hw0
  have HSZ := Lib.hid hsz
  rw [hsz] at HCA
  clear hw0 b0
  go_enter Tryd.func15, Tryd.ntmps15
  go_wp2_with fail
  rw [HW.out]
  go_upto_region 3 with (go_at_call 35; refine HCA.out.mono ?_; rintro e v1 ⟨v, c, t1, rfl, oc, hc25, hf17, hs9, ht1, d1, b1⟩; obtain ⟨ac, cc, af, cf, rfl, _, _, _⟩ := own_cfg_parts oc; have DC1 := Lib.hid (dc_from Z0.out (by omega) d1 b1 oc); clear d1 b1 oc)
  obtain ⟨s, L, F, d⟩ := c
  simp only at hc25 hf17 hs9 DC1
  simp only
  obtain ⟨N, hN⟩ : ∃ N, L.length = N := ⟨_, rfl⟩
  obtain ⟨M, hM⟩ : ∃ M, F.length = M := ⟨_, rfl⟩
  have HN := Lib.hid hN
  rw [hN] at DC1 hc25
  rw [hM] at DC1
  rw [hN, hM]
  obtain ⟨W, hW⟩ : ∃ u, w0.alloc (.cells #[.slice a n cap, .int .i64 0, .int .u64 0] 60) = u := ⟨_, rfl⟩
  rw [hW] at DC1
  obtain ⟨v2, hv2⟩ : ∃ u, v1.alloc (.cells #[.string s, .slice ac N cc, .slice af M cf, .int .i64 d] 26) = u := ⟨_, rfl⟩
  rw [hv2] at DC1 ⊢
  obtain ⟨b, hb⟩ : ∃ u, v1.heap.size = u := ⟨_, rfl⟩
  rw [hb] at DC1 ⊢
  clear hN hM hW hv2 hb HCA D0 Z0
  have HS1 : Hid (∀ t' w', DC w0 W a n cap zs t' b w.heap.size s (.slice ac N cc) (.slice af M cf) d ⟨s, L, F, d⟩ w' → (w'.cell? ⟨b, 0, none⟩ = some (.string s) ∧ w'.cell? ⟨b, 1, none⟩ = some (.slice ac N cc) ∧ w'.cell? ⟨b, 2, none⟩ = some (.slice af M cf) ∧ w'.cell? ⟨b, 3, none⟩ = some (.int .i64 d))) := Lib.hid (fun t' w' h => ⟨h.box.1, h.box.2.1, h.box.2.2.1, h.box.2.2.2.1⟩)
  have KD : Hid (DC w0 W a n cap zs t1 b w.heap.size s (.slice ac N cc) (.slice af M cf) d ⟨s, L, F, d⟩ v2.drew) := Lib.hid DC1.out.drew
  refine AnyL.begin (S := fun w' => w'.cell? ⟨b, 0, none⟩ = some (.string s) ∧ w'.cell? ⟨b, 1, none⟩ = some (.slice ac N cc) ∧ w'.cell? ⟨b, 2, none⟩ = some (.slice af M cf) ∧ w'.cell? ⟨b, 3, none⟩ = some (.int .i64 d)) (T := fun _ => True) (b := 100) (by kernel_rfl) ?_
  obtain ⟨u0, hu0⟩ : ∃ u0, v2.drew = u0 := ⟨_, rfl⟩
  rw [hu0] at KD ⊢
  clear hu0 DC1
  have hB := And.intro (HS1.out _ _ KD.out) trivial
  refine AnyL.tS (i := 0) (d := 12) (v := ?_) rfl rfl (by kernel_rfl) (by kernel_rfl) (by kernel_rfl) (by decide) (fun _ _ _ h => h) (by rfl) ?_ (by assumption) ?_
  rotate_left
  · intro w' hSw
    (try dsimp only at hSw)
    obtain ⟨g0, g1, g2, g3⟩ := hSw
    go_simp
    try with_reducible rfl
  try simp only [Act.put, List.setIfInBounds_toArray, List.set_cons_zero, List.set_cons_succ]
  refine AnyL.tS (i := 1) (d := 13) (v := ?_) rfl rfl (by kernel_rfl) (by kernel_rfl) (by kernel_rfl) (by decide) (fun _ _ _ h => h) (by rfl) ?_ (by assumption) ?_
  rotate_left
  · intro w' hSw
    (try dsimp only at hSw)
    go_simp
    try with_reducible rfl
  try simp only [Act.put, List.setIfInBounds_toArray, List.set_cons_zero, List.set_cons_succ]
  refine AnyL.tS (i := 2) (d := 14) (v := ?_) rfl rfl (by kernel_rfl) (by kernel_rfl) (by kernel_rfl) (by decide) (fun _ _ _ h => h) (by rfl) ?_ (by assumption) ?_
  rotate_left
  · intro w' hSw
    (try dsimp only at hSw)
    obtain ⟨g0, g1, g2, g3⟩ := hSw
    go_simp
    try with_reducible rfl
  try simp only [Act.put, List.setIfInBounds_toArray, List.set_cons_zero, List.set_cons_succ]
  refine AnyL.tS (i := 4) (d := 16) (v := ?_) rfl rfl (by kernel_rfl) (by kernel_rfl) (by kernel_rfl) (by decide) (fun _ _ _ h => h) (by rfl) ?_ (by assumption) ?_
  rotate_left
  · intro w' hSw
    (try dsimp only at hSw)
    go_simp
    try with_reducible rfl
  try simp only [Act.put, List.setIfInBounds_toArray, List.set_cons_zero, List.set_cons_succ]
  refine AnyL.tS (i := 5) (d := 17) (v := ?_) rfl rfl (by kernel_rfl) (by kernel_rfl) (by kernel_rfl) (by decide) (fun _ _ _ h => h) (by rfl) ?_ (by assumption) ?_
  rotate_left
  · intro w' hSw
    (try dsimp only at hSw)
    obtain ⟨g0, g1, g2, g3⟩ := hSw
    go_simp
    try with_reducible rfl
  try simp only [Act.put, List.setIfInBounds_toArray, List.set_cons_zero, List.set_cons_succ]
  refine AnyL.ready (rs := [3]) (by kernel_rfl) (by simp) ?_
  refine (AllL.consN rfl (fun K' hK => ?_) AllL.nil)
  go_simp
  go_at_call 36
  have HP := dr_place (s := s) (ad := ac) (cc := cc) (vF := .slice af M cf) (d := d) (N := N) (Lib.hid KD.out.dr) HL hn (by omega) (by omega)
  rw [HSZ.out] at HP
  refine HP.mono ?_
  rintro e u1 ⟨q1, tq1, rfl, p10, p11, htq1, dq, bq⟩
  have K1 := Lib.hid (KD.out.bar dq (by rw [HSZ.out]; exact bq))
  clear dq bq HP
  refine hK.out _ _ ⟨HS1.out _ _ K1.out, trivial⟩ (fun hB => ?_)
  clear hK K'
  try simp only [Act.put, List.setIfInBounds_toArray, List.set_cons_zero, List.set_cons_succ]
  refine AnyL.ready (rs := [6]) (by kernel_rfl) (by simp) ?_
  refine (AllL.consN rfl (fun K' hK => ?_) AllL.nil)
  go_simp
  go_at_call 36
  have HP := dr_place (s := s) (ad := ac) (cc := cc) (vF := .slice af M cf) (d := d) (N := N) (Lib.hid K1.out.dr) HL hn (by omega) (by omega)
  rw [HSZ.out] at HP
  refine HP.mono ?_
  rintro e u2 ⟨q2, tq2, rfl, p20, p21, htq2, dq, bq⟩
  have K2 := Lib.hid (K1.out.bar dq (by rw [HSZ.out]; exact bq))
  clear dq bq HP
  refine hK.out _ _ ⟨HS1.out _ _ K2.out, trivial⟩ (fun hB => ?_)
  clear hK K'
  try simp only [Act.put, List.setIfInBounds_toArray, List.set_cons_zero, List.set_cons_succ]
  obtain ⟨⟨z0, z1, z2, z3, zl⟩, zf⟩ := K2.out.zer
  have y0 := zf 0
  have y1 := zf 1
  have y2 := zf 2
  have y3 := zf 3
  refine AnyL.ready (rs := [7]) (by kernel_rfl) (by simp) ?_
  refine (AllL.consN rfl (fun K' hK => ?_) AllL.nil)
  go_simp
  have FI := Lib.hid (K2.out.fin (.string s) (.slice ac N cc) (.slice af M cf) (.int .i64 d))
  refine hK.out _ _ ⟨⟨FI.out.2.1, FI.out.2.2.1, FI.out.2.2.2.1, FI.out.2.2.2.2.1⟩, trivial⟩ (fun hB => ?_)
  clear hK K'
  try simp only [Act.put, List.setIfInBounds_toArray, List.set_cons_zero, List.set_cons_succ]
  refine AnyL.tS (i := 8) (d := 3) (v := ?_) rfl rfl (by kernel_rfl) (by kernel_rfl) (by kernel_rfl) (by decide) (fun _ _ _ h => h) (by rfl) ?_ (by assumption) ?_
  rotate_left
  · intro w' hSw
    (try dsimp only at hSw)
    go_simp
    try with_reducible rfl
  try simp only [Act.put, List.setIfInBounds_toArray, List.set_cons_zero, List.set_cons_succ]
  refine AnyL.tS (i := 9) (d := 4) (v := ?_) rfl rfl (by kernel_rfl) (by kernel_rfl) (by kernel_rfl) (by decide) (fun _ _ _ h => h) (by rfl) ?_ (by assumption) ?_
  rotate_left
  · intro w' hSw
    (try dsimp only at hSw)
    go_simp
    try with_reducible rfl
  try simp only [Act.put, List.setIfInBounds_toArray, List.set_cons_zero, List.set_cons_succ]
  refine AnyL.done (by kernel_rfl) ?_ _
  go_wp2_with fail
  obtain ⟨r0, r1, r2, r3⟩ := read4 K2.out.zer.four (.string s) (.slice ac N cc) (.slice af M cf) (.int .i64 d) _ rfl
  exact bodyPost_ret (v := .tuple #[.agg #[.string s, .slice ac N cc, .slice af M cf, .int .i64 d], .int .i64 q1, .int .i64 q2]) (by simp [results, Tryd.results15, go_sem, r0, r1, r2, r3]) rfl ⟨_, ⟨s, L, F, d⟩, q1, q2, rfl, FI.out.1.base (by have := K2.out.hW; omega), by rw [HN.out]; exact hc25, hf17, hs9, p10, by rw [HN.out]; exact p11, p20, by rw [HN.out]; exact p21, set4 (B0.out.trans (K2.out.dr.bel.mono (by omega))) _ (Nat.le_refl _) _ _ _ _⟩
end Go.Proofs.YthgbhnedfdnfpaaDoor
