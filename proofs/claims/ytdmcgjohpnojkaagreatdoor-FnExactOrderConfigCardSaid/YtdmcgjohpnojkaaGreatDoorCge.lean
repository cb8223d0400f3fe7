/- SetLimit, the model's. -/
import Derived.Test.YtdmcgjohpnojkaaGreatDoorCgd
import Derived.Deep.AppendLies
import Derived.Deep.RegionHeld3
import Derived.Laws.AppendOwnNone
namespace Go.Proofs.YtdmcgjohpnojkaaGreatDoor
set_option maxRecDepth 100000
open Go.RowKit
set_option linter.unusedVariables false

theorem own_empty (w : World) (B : Nat) (T : TypeId) (z : Nat) (hB : B ≤ w.heap.size) : (w.alloc (Obj.cells #[] T)).ownsRow B T z (.slice (some ⟨w.heap.size, 0, none⟩) 0 0) 0 [] :=
  ⟨by simp, .inr ⟨w.heap.size, 0, #[], rfl, hB, heap_alloc_new w _, Nat.le_refl _, Nat.zero_le _, by simp, by simp⟩⟩
theorem dis_new {w : World} {B n z : Nat} {T : TypeId} {v : Value} {xs : List Value} (h : w.ownsRow B T z v n xs) : ∀ k, v.ownBlock = some k → (Value.slice (some ⟨w.heap.size, 0, none⟩) 0 0).ownBlock ≠ some k := fun k hk q => by
  have h1 := (World.ownsRow.lt h k hk).2
  have h2 : w.heap.size = k := by simpa [Value.ownBlock] using q
  omega
theorem dis_symm {u v : Value} (h : ∀ k, v.ownBlock = some k → u.ownBlock ≠ some k) : ∀ k, u.ownBlock = some k → v.ownBlock ≠ some k := fun k hk q => h k q hk
theorem dis_app {w : World} {B n z : Nat} {T : TypeId} {u u' v : Value} {xs : List Value} (D : ∀ k, v.ownBlock = some k → u.ownBlock ≠ some k) (hat : u'.ownBlock = u.ownBlock ∨ u'.ownBlock = some w.heap.size) (h : w.ownsRow B T z v n xs) : ∀ k, v.ownBlock = some k → u'.ownBlock ≠ some k := fun k hk q => by
  rcases hat with e | e
  · exact D k hk (by rw [← e]; exact q)
  · have h1 := (World.ownsRow.lt h k hk).2
    rw [e] at q
    have h2 : w.heap.size = k := by simpa using q
    omega
theorem own_kept {w w1 : World} {B n z : Nat} {T : TypeId} {u v : Value} {xs : List Value} (h : w.ownsRow B T z v n xs) (hg : w.grownBy w1 u.ownBlock) (D : ∀ k, v.ownBlock = some k → u.ownBlock ≠ some k) : w1.ownsRow B T z v n xs :=
  h.kept hg (by
    cases hv : v.ownBlock with
    | none => exact .inl rfl
    | some k => exact .inr (fun e => D k hv e.symm))
theorem step_append_src {P : Program} (w : World) {ops : Array Oper} {o : Oper} {a : Act} {K : Act → World → Prop} {Q : Exit → Act → World → Prop} {E : Prop} (hgd : o.guard = none) (s x : Operand) (t : TypeId)
    (ho : o.op = .call { callee := .builtin .append, args := #[s, x], argTypes := #[t, t] })
    (base : Nat) (e : TypeId) (i : TypeInfo) (z : Value) (size bytes : Nat) (ht : P.underlying t = some (.slice e)) (hi : P.info? e = some i) (hz : i.zero = some z)
    (hsize : i.size = size) (hby : i.bytes = bytes) (hzs : z.cells.size = size) (hsz : 0 < size)
    (v : Value) (n : Nat) (xs : List Value) (hs : a.eval s = v) (hown : w.ownsRow base e size v n xs)
    (B2 : Nat) (src : Value) (m : Nat) (news : List Value) (hx : a.eval x = src) (hsrc : w.ownsRow B2 e size src m news) (h1 : ∀ u ∈ news, u.oneCell' = true)
    (h63 : n + m ≤ maxLen) (hbytes : (n + m) * bytes ≤ 140737488355328) (hbase : base ≤ w.heap.size)
    (h : ∀ v' w', w'.ownsRow base e size v' (n + m) (xs ++ news) → w.grownBy w' v.ownBlock → (v'.ownBlock = v.ownBlock ∨ v'.ownBlock = some w.heap.size) → K (a.put o.dst v') w') :
    if Region.wanted o (yielded ops a.tmps) = true then Oper.wp P o a w K Q else E := by
  have hw : Region.wanted o (yielded ops a.tmps) = true := by simp [Region.wanted, hgd]
  rw [if_pos hw]
  obtain ⟨v', w', hr, h2, h3, h5⟩ : ∃ v' w', (Builtin.append_ #[t, t] o.type #[v, src]).run P w = .ok v' w' ∧ w'.ownsRow base e size v' (n + m) (xs ++ news) ∧ w.grownBy w' v.ownBlock ∧ (v'.ownBlock = v.ownBlock ∨ v'.ownBlock = some w.heap.size) := by
    rcases hsrc.2 with ⟨rfl, rfl⟩ | ⟨g, cap, cur, rfl, _⟩
    · obtain rfl : news = [] := List.eq_nil_of_length_eq_zero (by have := hsrc.1; omega)
      exact ⟨v, w, run_append_owned_none w base t o.type e i size ht hi v n xs hown, by simpa using hown, ⟨rfl, rfl, rfl, Nat.le_refl _, fun _ _ _ => rfl⟩, .inl rfl⟩
    · obtain ⟨v', w', hr, h2, h3, _, h5⟩ := run_append_own_at (P := P) w base t o.type e i z size bytes ht hi hz hsize hby hzs hsz v n xs hown ⟨g, 0, none⟩ m cap news hsrc.1 (own_news hsrc) h1 h63 hbytes hbase
      exact ⟨v', w', hr, h2, h3, h5⟩
  unfold Oper.wp execOp
  simp only [ho, resolve, invoke, builtin, Sem.run_bind, Sem.run_pure, Result.andThen_ok, List.map_toArray, List.map_cons, List.map_nil, hs, hx, hr]
  exact h v' w' h2 h3 h5
set_option maxHeartbeats 6400000 in
theorem cfOwn_any (v : Value) (c : Cfg) (B : Nat) (w : World) (HV : Hid (OwnCfg w B v c)) (HM : Hid (CfgM c)) (h1 : 1 ≤ c.cs.length) :
    Calls Tryz.prog 91 #[v] w (SaysCfgN w c) := by
  obtain ⟨vc, vf, rfl, oc, of, od⟩ := HV.out
  obtain ⟨s, cs, fs, d⟩ := c
  have hM := HM.out
  unfold CfgM at hM
  simp only at oc of hM h1 ⊢
  obtain ⟨q0, q1, q2⟩ := hM
  obtain ⟨p, cc, rfl, ic⟩ := own_in oc
  obtain ⟨g, rfl, _, hg⟩ := ic (by omega)
  obtain ⟨f, cf, rfl, if_⟩ := own_in of
  have OC := Lib.hid oc
  have OF := Lib.hid of
  clear oc of ic if_ HV
  go_enter Tryz.func91, Tryz.ntmps91
  go_wp2_with fail
  have HZ := Lib.hid (zer_new (Below.refl _ ((w.alloc (.cells #[.string s, .slice (some ⟨g, 0, none⟩) cs.length cc, .slice f fs.length cf, .int .i64 d] 54)).alloc (.cells #[.string ⟨#[]⟩, .slice none 0 0, .slice none 0 0, .int .i64 0] 54))))
  have HX := Lib.hid (copy_box (Below.refl _ ((w.alloc (.cells #[.string s, .slice (some ⟨g, 0, none⟩) cs.length cc, .slice f fs.length cf, .int .i64 d] 54)).alloc (.cells #[.string ⟨#[]⟩, .slice none 0 0, .slice none 0 0, .int .i64 0] 54))))
  obtain ⟨w0, hw0⟩ : ∃ w0, (w.alloc (.cells #[.string s, .slice (some ⟨g, 0, none⟩) cs.length cc, .slice f fs.length cf, .int .i64 d] 54)).alloc (.cells #[.string ⟨#[]⟩, .slice none 0 0, .slice none 0 0, .int .i64 0] 54) = w0 := ⟨_, rfl⟩
  have HB0 : Hid (Below w.heap.size w w0) := Lib.hid (by rw [← hw0]; exact two_new _ _ _)
  have HS0 : Hid (w0.heap.size = w.heap.size + 2) := Lib.hid (by rw [← hw0]; simp)
  rw [hw0] at HX HZ ⊢
  clear hw0
  have hsz : w.heap.size + 1 ≤ w0.heap.size := by have := HS0.out; omega
  have hsw : w0.heap.size = w.heap.size + 2 := HS0.out
  obtain ⟨i0, hi, hz0, hz1, hz2⟩ := info_parts infoCls
  obtain ⟨j0, hj, hy0, hy1, hy2⟩ := info_parts infoFlt
  have HQ : Hid (∀ w', Below (w.heap.size + 1) w0 w' → w'.cell? ⟨w.heap.size, 0, none⟩ = some (.string s) ∧ w'.cell? ⟨w.heap.size, 1, none⟩ = some (.slice (some ⟨g, 0, none⟩) cs.length cc) ∧ w'.cell? ⟨w.heap.size, 2, none⟩ = some (.slice f fs.length cf) ∧ w'.cell? ⟨w.heap.size, 3, none⟩ = some (.int .i64 d) ∧ Below (w.heap.size + 1) w0 w') := Lib.hid (fun w' h => by
    obtain ⟨x0, x1, x2, x3, _⟩ := HX.out
    exact ⟨(h.cell (p := ⟨w.heap.size, 0, none⟩) (Nat.lt_succ_self _)).trans x0, (h.cell (p := ⟨w.heap.size, 1, none⟩) (Nat.lt_succ_self _)).trans x1, (h.cell (p := ⟨w.heap.size, 2, none⟩) (Nat.lt_succ_self _)).trans x2, (h.cell (p := ⟨w.heap.size, 3, none⟩) (Nat.lt_succ_self _)).trans x3, h⟩)
  refine wp_region_held_drew (S := fun w' => w'.cell? ⟨w.heap.size, 0, none⟩ = some (.string s) ∧ w'.cell? ⟨w.heap.size, 1, none⟩ = some (.slice (some ⟨g, 0, none⟩) cs.length cc) ∧ w'.cell? ⟨w.heap.size, 2, none⟩ = some (.slice f fs.length cf) ∧ w'.cell? ⟨w.heap.size, 3, none⟩ = some (.int .i64 d) ∧ Below (w.heap.size + 1) w0 w') (by kernel_rfl) ?_ (fun hHeld => ?_)
  · (try dsimp only)
    exact HQ.out _ (Below.mono (BX.drew0 w0) hsz)
  refine held_take (i := 0) (d := 3) (v := ?_) rfl rfl (by kernel_rfl) (by kernel_rfl) (by kernel_rfl) (fun _ _ _ h => h) (by rfl) ?_ (by assumption) ?_
  rotate_left
  · intro w hSw
    (try dsimp only at hSw)
    go_simp
    try with_reducible rfl
  try simp only [Act.put, List.setIfInBounds_toArray, List.set_cons_zero, List.set_cons_succ]
  refine held_take (i := 1) (d := 4) (v := ?_) rfl rfl (by kernel_rfl) (by kernel_rfl) (by kernel_rfl) (fun _ _ _ h => h) (by rfl) ?_ (by assumption) ?_
  rotate_left
  · intro w hSw
    (try dsimp only at hSw)
    go_simp
    try with_reducible rfl
  try simp only [Act.put, List.setIfInBounds_toArray, List.set_cons_zero, List.set_cons_succ]
  refine held_take (i := 3) (d := 6) (v := ?_) rfl rfl (by kernel_rfl) (by kernel_rfl) (by kernel_rfl) (fun _ _ _ h => h) (by rfl) ?_ (by assumption) ?_
  rotate_left
  · intro w hSw
    (try dsimp only at hSw)
    go_simp
    try with_reducible rfl
  try simp only [Act.put, List.setIfInBounds_toArray, List.set_cons_zero, List.set_cons_succ]
  refine held_take (i := 4) (d := 7) (v := ?_) rfl rfl (by kernel_rfl) (by kernel_rfl) (by kernel_rfl) (fun _ _ _ h => h) (by rfl) ?_ (by assumption) ?_
  rotate_left
  · intro w hSw
    (try dsimp only at hSw)
    go_simp
    try with_reducible rfl
  try simp only [Act.put, List.setIfInBounds_toArray, List.set_cons_zero, List.set_cons_succ]
  refine held_take (i := 7) (d := 10) (v := ?_) rfl rfl (by kernel_rfl) (by kernel_rfl) (by kernel_rfl) (fun _ _ _ h => h) (by rfl) ?_ (by assumption) ?_
  rotate_left
  · intro w hSw
    (try dsimp only at hSw)
    go_simp
    try with_reducible rfl
  try simp only [Act.put, List.setIfInBounds_toArray, List.set_cons_zero, List.set_cons_succ]
  refine held_take (i := 8) (d := 11) (v := ?_) rfl rfl (by kernel_rfl) (by kernel_rfl) (by kernel_rfl) (fun _ _ _ h => h) (by rfl) ?_ (by assumption) ?_
  rotate_left
  · intro w hSw
    (try dsimp only at hSw)
    go_simp
    try with_reducible rfl
  try simp only [Act.put, List.setIfInBounds_toArray, List.set_cons_zero, List.set_cons_succ]
  refine held_take (i := 10) (d := 13) (v := ?_) rfl rfl (by kernel_rfl) (by kernel_rfl) (by kernel_rfl) (fun _ _ _ h => h) (by rfl) ?_ (by assumption) ?_
  rotate_left
  · intro w hSw
    (try dsimp only at hSw)
    go_simp
    try with_reducible rfl
  try simp only [Act.put, List.setIfInBounds_toArray, List.set_cons_zero, List.set_cons_succ]
  refine held_take (i := 11) (d := 14) (v := ?_) rfl rfl (by kernel_rfl) (by kernel_rfl) (by kernel_rfl) (fun _ _ _ h => h) (by rfl) ?_ (by assumption) ?_
  rotate_left
  · intro w hSw
    (try dsimp only at hSw)
    go_simp
    try with_reducible rfl
  try simp only [Act.put, List.setIfInBounds_toArray, List.set_cons_zero, List.set_cons_succ]
  have BX0 : Hid (BX w0 w0.drew) := Lib.hid (BX.drew0 w0)
  obtain ⟨u0, hu0⟩ : ∃ u0, w0.drew = u0 := ⟨_, rfl⟩
  rw [hu0] at hHeld BX0 ⊢
  clear hu0
  refine wpAnyH_ready (rs := [2, 6]) (by kernel_rfl) (by simp) ?_
  refine (AllReadyH.cons rfl (fun K' hK => ?_) (AllReadyH.cons rfl (fun K' hK => ?_) AllReadyH.nil))
  · go_simp
    refine hK.out _ _ ?_ (fun hHeld => ?_)
    · (try dsimp only)
      exact HQ.out _ (Below.mono (BX.alloc BX0.out _) hsz)
    clear hK K'
    have BX1 := Lib.hid (BX.alloc BX0.out (Obj.cells #[] 63))
    have OWC1 := Lib.hid (own_empty u0 w0.heap.size 63 8 BX0.out.size)
    obtain ⟨u1, hw1⟩ : ∃ w, u0.alloc (Obj.cells #[] 63) = w := ⟨_, rfl⟩
    rw [hw1] at hHeld BX1 OWC1 ⊢
    clear hw1
    try simp only [Act.put, List.setIfInBounds_toArray, List.set_cons_zero, List.set_cons_succ]
    refine wpAnyH_ready (rs := [5, 6]) (by kernel_rfl) (by simp) ?_
    refine (AllReadyH.cons rfl (fun K' hK => ?_) (AllReadyH.cons rfl (fun K' hK => ?_) AllReadyH.nil))
    · refine step_append_src _ rfl (.tmp 5) (.tmp 7) 51 rfl w0.heap.size 63 i0 (.agg #[.int .i64 0, .int .i64 0, .int .i64 0, .int .i64 0, .int .i64 0, .int .i64 0, .int .i64 0, .int .i64 0]) 8 64 Tryz.underlying51 hi hz0 hz1 hz2 rfl (by decide) (.slice (some ⟨u0.heap.size, 0, none⟩) 0 0) 0 [] (by rfl) OWC1.out B (.slice (some ⟨g, 0, none⟩) cs.length cc) cs.length (clsCs cs) (by rfl) (own_low OC.out (Below.trans HB0.out (Below.mono BX1.out (by omega))) (Nat.le_refl _)) (clsCs_one cs) (by unfold maxLen; omega) (by omega) BX1.out.size ?_
      intro xC2 u2 hown hgrow hat
      rw [Nat.zero_add, List.nil_append] at hown
      obtain ⟨aC2, kC2, rfl, _⟩ := own_in hown
      have BX2 : Hid (BX w0 u2) := Lib.hid (Below.grown BX1.out hgrow BX1.out.size (fun q hq => (World.ownsRow.lt OWC1.out q hq).1))
      have OWC2 := Lib.hid hown
      clear hown hgrow hat
      refine hK.out _ _ ?_ (fun hHeld => ?_)
      · (try dsimp only)
        exact HQ.out _ (Below.mono BX2.out hsz)
      clear hK K'
      try simp only [Act.put, List.setIfInBounds_toArray]
      refine wpAnyH_ready (rs := [6]) (by kernel_rfl) (by simp) ?_
      refine (AllReadyH.cons rfl (fun K' hK => ?_) AllReadyH.nil)
      · go_simp
        refine hK.out _ _ ?_ (fun hHeld => ?_)
        · (try dsimp only)
          exact HQ.out _ (Below.mono (BX.alloc BX2.out _) hsz)
        clear hK K'
        have BX3 := Lib.hid (BX.alloc BX2.out (Obj.cells #[] 113))
        have OWF3 := Lib.hid (own_empty u2 w0.heap.size 113 5 BX2.out.size)
        have OWC3 := Lib.hid (own_low OWC2.out (one_new2 u2 (Obj.cells #[] 113)) (Nat.le_refl _))
        have DD3 := Lib.hid (dis_new OWC2.out)
        obtain ⟨u3, hw3⟩ : ∃ w, u2.alloc (Obj.cells #[] 113) = w := ⟨_, rfl⟩
        rw [hw3] at hHeld BX3 OWF3 OWC3 ⊢
        clear hw3
        try simp only [Act.put, List.setIfInBounds_toArray, List.set_cons_zero, List.set_cons_succ]
        refine wpAnyH_ready (rs := [9]) (by kernel_rfl) (by simp) ?_
        refine (AllReadyH.cons rfl (fun K' hK => ?_) AllReadyH.nil)
        · refine step_append_src _ rfl (.tmp 9) (.tmp 11) 52 rfl w0.heap.size 113 j0 (.agg #[.int .i64 0, .int .i64 0, .int .i64 0, .int .i64 0, .int .i64 0]) 5 40 Tryz.underlying52 hj hy0 hy1 hy2 rfl (by decide) (.slice (some ⟨u2.heap.size, 0, none⟩) 0 0) 0 [] (by rfl) OWF3.out B (.slice f fs.length cf) fs.length (fltCs fs) (by rfl) (own_low OF.out (Below.trans HB0.out (Below.mono BX3.out (by omega))) (Nat.le_refl _)) (fltCs_one fs) (by unfold maxLen; omega) (by omega) BX3.out.size ?_
          intro xF4 u4 hown hgrow hat
          rw [Nat.zero_add, List.nil_append] at hown
          obtain ⟨aF4, kF4, rfl, _⟩ := own_in hown
          have BX4 : Hid (BX w0 u4) := Lib.hid (Below.grown BX3.out hgrow BX3.out.size (fun q hq => (World.ownsRow.lt OWF3.out q hq).1))
          have OWF4 := Lib.hid hown
          have OWC4 := Lib.hid (own_kept OWC3.out hgrow DD3.out)
          have DD4 := Lib.hid (dis_app DD3.out hat OWC3.out)
          clear hown hgrow hat
          refine hK.out _ _ ?_ (fun hHeld => ?_)
          · (try dsimp only)
            exact HQ.out _ (Below.mono BX4.out hsz)
          clear hK K'
          try simp only [Act.put, List.setIfInBounds_toArray]
          refine held_take (i := 12) (d := 15) (v := ?_) rfl rfl (by kernel_rfl) (by kernel_rfl) (by kernel_rfl) (fun _ _ _ h => h) (by rfl) ?_ (by assumption) ?_
          rotate_left
          · intro w hSw
            (try dsimp only at hSw)
            go_simp
            try with_reducible rfl
          try simp only [Act.put]
          have HZ4 := Lib.hid (HZ.out.on BX4.out)
          obtain ⟨⟨x0, x1, x2, x3, _⟩, x4⟩ := HZ4.out
          have y0 := x4 0
          have y1 := x4 1
          have y2 := x4 2
          have y3 := x4 3
          clear x4
          refine wpAnyH_ready (rs := [13]) (by kernel_rfl) (by simp) ?_
          refine AllReadyH.cons rfl (fun K' hK => ?_) AllReadyH.nil
          go_simp
          refine hK.out _ _ ?_ (fun hHeld => ?_)
          · (try dsimp only)
            exact HQ.out _ (set4 (Below.mono BX4.out hsz) _ (Nat.le_refl _) _ _ _ _)
          clear hK K'
          refine wpAnyH_done (by kernel_rfl) ?_ _
          clear x0 x1 x2 x3 y0 y1 y2 y3
          go_wp2_with fail
          have F4 := HZ4.out.four
          obtain ⟨r0, r1, r2, r3⟩ := read4 F4 (.string s) (.slice aC2 cs.length kC2) (.slice aF4 fs.length kF4) (.int .i64 d) _ rfl
          exact bodyPost_ret (v := .agg #[.string s, (.slice aC2 cs.length kC2), (.slice aF4 fs.length kF4), .int .i64 d]) (by simp [results, Tryz.results91, go_sem, r0, r1, r2, r3]) rfl ⟨_, rfl, (OwnCfg.set4 (g := w.heap.size + 1) (⟨_, _, rfl, OWC4.out, OWF4.out, DD4.out⟩ : OwnCfg u4 w0.heap.size (.agg #[.string s, (.slice aC2 cs.length kC2), (.slice aF4 fs.length kF4), .int .i64 d]) ⟨s, cs, fs, d⟩) (by omega) _ _ _ _).base (by omega), set4 (Below.trans HB0.out (Below.mono BX4.out (by omega))) _ (Nat.le_succ _) _ _ _ _⟩
    · go_simp
      refine hK.out _ _ ?_ (fun hHeld => ?_)
      · (try dsimp only)
        exact HQ.out _ (Below.mono (BX.alloc BX1.out _) hsz)
      clear hK K'
      have BX2 := Lib.hid (BX.alloc BX1.out (Obj.cells #[] 113))
      have OWF2 := Lib.hid (own_empty u1 w0.heap.size 113 5 BX1.out.size)
      have OWC2 := Lib.hid (own_low OWC1.out (one_new2 u1 (Obj.cells #[] 113)) (Nat.le_refl _))
      have DD2 := Lib.hid (dis_new OWC1.out)
      obtain ⟨u2, hw2⟩ : ∃ w, u1.alloc (Obj.cells #[] 113) = w := ⟨_, rfl⟩
      rw [hw2] at hHeld BX2 OWF2 OWC2 ⊢
      clear hw2
      try simp only [Act.put, List.setIfInBounds_toArray, List.set_cons_zero, List.set_cons_succ]
      refine wpAnyH_ready (rs := [5]) (by kernel_rfl) (by simp) ?_
      refine (AllReadyH.cons rfl (fun K' hK => ?_) AllReadyH.nil)
      · refine step_append_src _ rfl (.tmp 5) (.tmp 7) 51 rfl w0.heap.size 63 i0 (.agg #[.int .i64 0, .int .i64 0, .int .i64 0, .int .i64 0, .int .i64 0, .int .i64 0, .int .i64 0, .int .i64 0]) 8 64 Tryz.underlying51 hi hz0 hz1 hz2 rfl (by decide) (.slice (some ⟨u0.heap.size, 0, none⟩) 0 0) 0 [] (by rfl) OWC2.out B (.slice (some ⟨g, 0, none⟩) cs.length cc) cs.length (clsCs cs) (by rfl) (own_low OC.out (Below.trans HB0.out (Below.mono BX2.out (by omega))) (Nat.le_refl _)) (clsCs_one cs) (by unfold maxLen; omega) (by omega) BX2.out.size ?_
        intro xC3 u3 hown hgrow hat
        rw [Nat.zero_add, List.nil_append] at hown
        obtain ⟨aC3, kC3, rfl, _⟩ := own_in hown
        have BX3 : Hid (BX w0 u3) := Lib.hid (Below.grown BX2.out hgrow BX2.out.size (fun q hq => (World.ownsRow.lt OWC2.out q hq).1))
        have OWC3 := Lib.hid hown
        have OWF3 := Lib.hid (own_kept OWF2.out hgrow (dis_symm DD2.out))
        have DD3 := Lib.hid (dis_symm (dis_app (dis_symm DD2.out) hat OWF2.out))
        clear hown hgrow hat
        refine hK.out _ _ ?_ (fun hHeld => ?_)
        · (try dsimp only)
          exact HQ.out _ (Below.mono BX3.out hsz)
        clear hK K'
        try simp only [Act.put, List.setIfInBounds_toArray]
        refine wpAnyH_ready (rs := [9]) (by kernel_rfl) (by simp) ?_
        refine (AllReadyH.cons rfl (fun K' hK => ?_) AllReadyH.nil)
        · refine step_append_src _ rfl (.tmp 9) (.tmp 11) 52 rfl w0.heap.size 113 j0 (.agg #[.int .i64 0, .int .i64 0, .int .i64 0, .int .i64 0, .int .i64 0]) 5 40 Tryz.underlying52 hj hy0 hy1 hy2 rfl (by decide) (.slice (some ⟨u1.heap.size, 0, none⟩) 0 0) 0 [] (by rfl) OWF3.out B (.slice f fs.length cf) fs.length (fltCs fs) (by rfl) (own_low OF.out (Below.trans HB0.out (Below.mono BX3.out (by omega))) (Nat.le_refl _)) (fltCs_one fs) (by unfold maxLen; omega) (by omega) BX3.out.size ?_
          intro xF4 u4 hown hgrow hat
          rw [Nat.zero_add, List.nil_append] at hown
          obtain ⟨aF4, kF4, rfl, _⟩ := own_in hown
          have BX4 : Hid (BX w0 u4) := Lib.hid (Below.grown BX3.out hgrow BX3.out.size (fun q hq => (World.ownsRow.lt OWF3.out q hq).1))
          have OWF4 := Lib.hid hown
          have OWC4 := Lib.hid (own_kept OWC3.out hgrow DD3.out)
          have DD4 := Lib.hid (dis_app DD3.out hat OWC3.out)
          clear hown hgrow hat
          refine hK.out _ _ ?_ (fun hHeld => ?_)
          · (try dsimp only)
            exact HQ.out _ (Below.mono BX4.out hsz)
          clear hK K'
          try simp only [Act.put]
          refine held_take (i := 12) (d := 15) (v := ?_) rfl rfl (by kernel_rfl) (by kernel_rfl) (by kernel_rfl) (fun _ _ _ h => h) (by rfl) ?_ (by assumption) ?_
          rotate_left
          · intro w hSw
            (try dsimp only at hSw)
            go_simp
            try with_reducible rfl
          try simp only [Act.put]
          have HZ4 := Lib.hid (HZ.out.on BX4.out)
          obtain ⟨⟨x0, x1, x2, x3, _⟩, x4⟩ := HZ4.out
          have y0 := x4 0
          have y1 := x4 1
          have y2 := x4 2
          have y3 := x4 3
          clear x4
          refine wpAnyH_ready (rs := [13]) (by kernel_rfl) (by simp) ?_
          refine AllReadyH.cons rfl (fun K' hK => ?_) AllReadyH.nil
          go_simp
          refine hK.out _ _ ?_ (fun hHeld => ?_)
          · (try dsimp only)
            exact HQ.out _ (set4 (Below.mono BX4.out hsz) _ (Nat.le_refl _) _ _ _ _)
          clear hK K'
          refine wpAnyH_done (by kernel_rfl) ?_ _
          clear x0 x1 x2 x3 y0 y1 y2 y3
          go_wp2_with fail
          have F4 := HZ4.out.four
          obtain ⟨r0, r1, r2, r3⟩ := read4 F4 (.string s) (.slice aC3 cs.length kC3) (.slice aF4 fs.length kF4) (.int .i64 d) _ rfl
          exact bodyPost_ret (v := .agg #[.string s, (.slice aC3 cs.length kC3), (.slice aF4 fs.length kF4), .int .i64 d]) (by simp [results, Tryz.results91, go_sem, r0, r1, r2, r3]) rfl ⟨_, rfl, (OwnCfg.set4 (g := w.heap.size + 1) (⟨_, _, rfl, OWC4.out, OWF4.out, DD4.out⟩ : OwnCfg u4 w0.heap.size (.agg #[.string s, (.slice aC3 cs.length kC3), (.slice aF4 fs.length kF4), .int .i64 d]) ⟨s, cs, fs, d⟩) (by omega) _ _ _ _).base (by omega), set4 (Below.trans HB0.out (Below.mono BX4.out (by omega))) _ (Nat.le_succ _) _ _ _ _⟩
  · go_simp
    refine hK.out _ _ ?_ (fun hHeld => ?_)
    · (try dsimp only)
      exact HQ.out _ (Below.mono (BX.alloc BX0.out _) hsz)
    clear hK K'
    have BX1 := Lib.hid (BX.alloc BX0.out (Obj.cells #[] 113))
    have OWF1 := Lib.hid (own_empty u0 w0.heap.size 113 5 BX0.out.size)
    obtain ⟨u1, hw1⟩ : ∃ w, u0.alloc (Obj.cells #[] 113) = w := ⟨_, rfl⟩
    rw [hw1] at hHeld BX1 OWF1 ⊢
    clear hw1
    try simp only [Act.put, List.setIfInBounds_toArray, List.set_cons_zero, List.set_cons_succ]
    refine wpAnyH_ready (rs := [2]) (by kernel_rfl) (by simp) ?_
    refine (AllReadyH.cons rfl (fun K' hK => ?_) AllReadyH.nil)
    · go_simp
      refine hK.out _ _ ?_ (fun hHeld => ?_)
      · (try dsimp only)
        exact HQ.out _ (Below.mono (BX.alloc BX1.out _) hsz)
      clear hK K'
      have BX2 := Lib.hid (BX.alloc BX1.out (Obj.cells #[] 63))
      have OWC2 := Lib.hid (own_empty u1 w0.heap.size 63 8 BX1.out.size)
      have OWF2 := Lib.hid (own_low OWF1.out (one_new2 u1 (Obj.cells #[] 63)) (Nat.le_refl _))
      have DD2 := Lib.hid (dis_symm (dis_new OWF1.out))
      obtain ⟨u2, hw2⟩ : ∃ w, u1.alloc (Obj.cells #[] 63) = w := ⟨_, rfl⟩
      rw [hw2] at hHeld BX2 OWC2 OWF2 ⊢
      clear hw2
      try simp only [Act.put, List.setIfInBounds_toArray, List.set_cons_zero, List.set_cons_succ]
      refine wpAnyH_ready (rs := [5]) (by kernel_rfl) (by simp) ?_
      refine (AllReadyH.cons rfl (fun K' hK => ?_) AllReadyH.nil)
      · refine step_append_src _ rfl (.tmp 5) (.tmp 7) 51 rfl w0.heap.size 63 i0 (.agg #[.int .i64 0, .int .i64 0, .int .i64 0, .int .i64 0, .int .i64 0, .int .i64 0, .int .i64 0, .int .i64 0]) 8 64 Tryz.underlying51 hi hz0 hz1 hz2 rfl (by decide) (.slice (some ⟨u1.heap.size, 0, none⟩) 0 0) 0 [] (by rfl) OWC2.out B (.slice (some ⟨g, 0, none⟩) cs.length cc) cs.length (clsCs cs) (by rfl) (own_low OC.out (Below.trans HB0.out (Below.mono BX2.out (by omega))) (Nat.le_refl _)) (clsCs_one cs) (by unfold maxLen; omega) (by omega) BX2.out.size ?_
        intro xC3 u3 hown hgrow hat
        rw [Nat.zero_add, List.nil_append] at hown
        obtain ⟨aC3, kC3, rfl, _⟩ := own_in hown
        have BX3 : Hid (BX w0 u3) := Lib.hid (Below.grown BX2.out hgrow BX2.out.size (fun q hq => (World.ownsRow.lt OWC2.out q hq).1))
        have OWC3 := Lib.hid hown
        have OWF3 := Lib.hid (own_kept OWF2.out hgrow (dis_symm DD2.out))
        have DD3 := Lib.hid (dis_symm (dis_app (dis_symm DD2.out) hat OWF2.out))
        clear hown hgrow hat
        refine hK.out _ _ ?_ (fun hHeld => ?_)
        · (try dsimp only)
          exact HQ.out _ (Below.mono BX3.out hsz)
        clear hK K'
        try simp only [Act.put, List.setIfInBounds_toArray]
        refine wpAnyH_ready (rs := [9]) (by kernel_rfl) (by simp) ?_
        refine (AllReadyH.cons rfl (fun K' hK => ?_) AllReadyH.nil)
        · refine step_append_src _ rfl (.tmp 9) (.tmp 11) 52 rfl w0.heap.size 113 j0 (.agg #[.int .i64 0, .int .i64 0, .int .i64 0, .int .i64 0, .int .i64 0]) 5 40 Tryz.underlying52 hj hy0 hy1 hy2 rfl (by decide) (.slice (some ⟨u0.heap.size, 0, none⟩) 0 0) 0 [] (by rfl) OWF3.out B (.slice f fs.length cf) fs.length (fltCs fs) (by rfl) (own_low OF.out (Below.trans HB0.out (Below.mono BX3.out (by omega))) (Nat.le_refl _)) (fltCs_one fs) (by unfold maxLen; omega) (by omega) BX3.out.size ?_
          intro xF4 u4 hown hgrow hat
          rw [Nat.zero_add, List.nil_append] at hown
          obtain ⟨aF4, kF4, rfl, _⟩ := own_in hown
          have BX4 : Hid (BX w0 u4) := Lib.hid (Below.grown BX3.out hgrow BX3.out.size (fun q hq => (World.ownsRow.lt OWF3.out q hq).1))
          have OWF4 := Lib.hid hown
          have OWC4 := Lib.hid (own_kept OWC3.out hgrow DD3.out)
          have DD4 := Lib.hid (dis_app DD3.out hat OWC3.out)
          clear hown hgrow hat
          refine hK.out _ _ ?_ (fun hHeld => ?_)
          · (try dsimp only)
            exact HQ.out _ (Below.mono BX4.out hsz)
          clear hK K'
          try simp only [Act.put]
          refine held_take (i := 12) (d := 15) (v := ?_) rfl rfl (by kernel_rfl) (by kernel_rfl) (by kernel_rfl) (fun _ _ _ h => h) (by rfl) ?_ (by assumption) ?_
          rotate_left
          · intro w hSw
            (try dsimp only at hSw)
            go_simp
            try with_reducible rfl
          try simp only [Act.put]
          have HZ4 := Lib.hid (HZ.out.on BX4.out)
          obtain ⟨⟨x0, x1, x2, x3, _⟩, x4⟩ := HZ4.out
          have y0 := x4 0
          have y1 := x4 1
          have y2 := x4 2
          have y3 := x4 3
          clear x4
          refine wpAnyH_ready (rs := [13]) (by kernel_rfl) (by simp) ?_
          refine AllReadyH.cons rfl (fun K' hK => ?_) AllReadyH.nil
          go_simp
          refine hK.out _ _ ?_ (fun hHeld => ?_)
          · (try dsimp only)
            exact HQ.out _ (set4 (Below.mono BX4.out hsz) _ (Nat.le_refl _) _ _ _ _)
          clear hK K'
          refine wpAnyH_done (by kernel_rfl) ?_ _
          clear x0 x1 x2 x3 y0 y1 y2 y3
          go_wp2_with fail
          have F4 := HZ4.out.four
          obtain ⟨r0, r1, r2, r3⟩ := read4 F4 (.string s) (.slice aC3 cs.length kC3) (.slice aF4 fs.length kF4) (.int .i64 d) _ rfl
          exact bodyPost_ret (v := .agg #[.string s, (.slice aC3 cs.length kC3), (.slice aF4 fs.length kF4), .int .i64 d]) (by simp [results, Tryz.results91, go_sem, r0, r1, r2, r3]) rfl ⟨_, rfl, (OwnCfg.set4 (g := w.heap.size + 1) (⟨_, _, rfl, OWC4.out, OWF4.out, DD4.out⟩ : OwnCfg u4 w0.heap.size (.agg #[.string s, (.slice aC3 cs.length kC3), (.slice aF4 fs.length kF4), .int .i64 d]) ⟨s, cs, fs, d⟩) (by omega) _ _ _ _).base (by omega), set4 (Below.trans HB0.out (Below.mono BX4.out (by omega))) _ (Nat.le_succ _) _ _ _ _⟩
end Go.Proofs.YtdmcgjohpnojkaaGreatDoor
