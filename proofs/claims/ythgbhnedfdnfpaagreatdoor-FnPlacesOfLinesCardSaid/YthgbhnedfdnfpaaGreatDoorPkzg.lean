import Derived.Test.YthgbhnedfdnfpaaGreatDoorPkh
import Derived.Laws.AppendOwn
import Derived.ArgAppend
import Derived.Test.YthgbhnedfdnfpaaGreatDoorPkzf
import Derived.Test.YthgbhnedfdnfpaaGreatDoorPkm
/- An append onto a row of the call's own: where the new row lies. -/
namespace Go.Proofs.YthgbhnedfdnfpaaGreatDoor
set_option maxRecDepth 100000
open Go.RowKit
set_option linter.unusedVariables false

theorem run_append_at {P : Program} (w : World) (base : Nat) (t ty e : TypeId) (i : TypeInfo) (z : Value) (size bytes : Nat) (ht : P.underlying t = some (.slice e)) (hi : P.info? e = some i) (hz : i.zero = some z)
    (hsize : i.size = size) (hby : i.bytes = bytes) (hzs : z.cells.size = size) (hsz : 0 < size)
    (v : Value) (n : Nat) (xs : List Value) (hown : w.ownsRow base e size v n xs)
    (a : Addr) (m c : Nat) (news : List Value) (hl : news.length = m * size) (hnews : ∀ j u, news[j]? = some u → w.cell? (a.add j) = some u) (h1 : ∀ u ∈ news, u.oneCell' = true)
    (h63 : n + m ≤ maxLen) (hbytes : (n + m) * bytes ≤ 140737488355328) (hbase : base ≤ w.heap.size) :
    ∃ v' w', (Builtin.append_ #[t, t] ty #[v, .slice (some a) m c]).run P w = .ok v' w' ∧ w'.ownsRow base e size v' (n + m) (xs ++ news) ∧ w.grownBy w' v.ownBlock ∧ (∀ k, v'.ownBlock = some k → v.ownBlock = some k ∨ w.heap.size ≤ k) := by
  obtain ⟨v', w', hr, h2, h3, _⟩ := run_append_own (P := P) w base t ty e i z size bytes ht hi hz hsize hby hzs hsz v n xs hown a m c news hl hnews h1 h63 hbytes hbase
  refine ⟨v', w', hr, h2, h3, ?_⟩
  rcases hown.2 with ⟨rfl, rfl⟩ | ⟨g, cap, cur, rfl, hbg, hg, hnc, hcm, hcs, htake⟩
  · have hx : xs = [] := List.eq_nil_of_length_eq_zero (by simpa using hown.1)
    subst hx
    obtain ⟨v2, w2, hr2, q2, _, _⟩ := run_append_own (P := P) w w.heap.size t ty e i z size bytes ht hi hz hsize hby hzs hsz (.slice none 0 0) 0 [] (World.ownsRow_nil w _ e size) a m c news hl hnews h1 h63 hbytes (Nat.le_refl _)
    rw [hr] at hr2
    cases hr2
    exact fun k hk => .inr (World.ownsRow.lt q2 k hk).1
  · by_cases hroom : n + m ≤ cap
    · subst hsize
      have hfit : n * i.size + news.length ≤ cur.size := by rw [hl, hcs, ← Nat.add_mul]; exact Nat.mul_le_mul_right _ hroom
      have hr2 := run_append_room (P := P) w t ty e i ht hi g n cap cur hg a m c news hl hnews h1 hroom hfit
      rw [hr] at hr2
      cases hr2
      exact fun k hk => .inl hk
    · obtain ⟨v2, w2, hr2, q2, _⟩ := run_append_arg_grows (P := P) w t ty e i z size bytes ht hi hz hsize hby hzs hsz ⟨g, 0, none⟩ n cap xs hown.1 (hown.cells (g := g) rfl) a m c news hl hnews (by omega) h63 hbytes
      rw [hr] at hr2
      cases hr2
      exact fun k hk => .inr (World.ownsRow.lt q2 k hk).1
theorem wpList_append_at {P : Program} (w : World) {ops : Array Oper} {rest : List Oper} {o : Oper} {a : Act} {Q : Exit → Act → World → Prop} (hgd : o.guard = none) (s x : Operand) (t : TypeId)
    (ho : o.op = .call { callee := .builtin .append, args := #[s, x], argTypes := #[t, t] })
    (base : Nat) (e : TypeId) (i : TypeInfo) (z : Value) (size bytes : Nat) (ht : P.underlying t = some (.slice e)) (hi : P.info? e = some i) (hz : i.zero = some z)
    (hsize : i.size = size) (hby : i.bytes = bytes) (hzs : z.cells.size = size) (hsz : 0 < size)
    (v : Value) (n : Nat) (xs : List Value) (hs : a.eval s = v) (hown : w.ownsRow base e size v n xs)
    (ad : Addr) (m c : Nat) (news : List Value) (hx : a.eval x = .slice (some ad) m c) (hl : news.length = m * size) (hnews : ∀ j u, news[j]? = some u → w.cell? (ad.add j) = some u) (h1 : ∀ u ∈ news, u.oneCell' = true)
    (h63 : n + m ≤ maxLen) (hbytes : (n + m) * bytes ≤ 140737488355328) (hbase : base ≤ w.heap.size)
    (h : ∀ v' w', w'.ownsRow base e size v' (n + m) (xs ++ news) → w.grownBy w' v.ownBlock → (∀ k, v'.ownBlock = some k → v.ownBlock = some k ∨ w.heap.size ≤ k) → wpList P ops Q rest (a.put o.dst v') w') : wpList P ops Q (o :: rest) a w := by
  obtain ⟨v', w', hr, h2, h3, h4⟩ := run_append_at (P := P) w base t o.type e i z size bytes ht hi hz hsize hby hzs hsz v n xs hown ad m c news hl hnews h1 h63 hbytes hbase
  refine wpList_plain hgd fun K hK => ?_
  unfold Oper.wp execOp
  simp only [ho, resolve, invoke, builtin, Sem.run_bind, Sem.run_pure, Result.andThen_ok, List.map_toArray, List.map_cons, List.map_nil, hs, hx, hr]
  exact hK _ _ (h v' w' h2 h3 h4)
theorem step_append_at {P : Program} (w : World) {ops : Array Oper} {o : Oper} {a : Act} {K : Act → World → Prop} {Q : Exit → Act → World → Prop} {E : Prop} (hgd : o.guard = none) (s x : Operand) (t : TypeId)
    (ho : o.op = .call { callee := .builtin .append, args := #[s, x], argTypes := #[t, t] })
    (base : Nat) (e : TypeId) (i : TypeInfo) (z : Value) (size bytes : Nat) (ht : P.underlying t = some (.slice e)) (hi : P.info? e = some i) (hz : i.zero = some z)
    (hsize : i.size = size) (hby : i.bytes = bytes) (hzs : z.cells.size = size) (hsz : 0 < size)
    (v : Value) (n : Nat) (xs : List Value) (hs : a.eval s = v) (hown : w.ownsRow base e size v n xs)
    (ad : Addr) (m c : Nat) (news : List Value) (hx : a.eval x = .slice (some ad) m c) (hl : news.length = m * size) (hnews : ∀ j u, news[j]? = some u → w.cell? (ad.add j) = some u) (h1 : ∀ u ∈ news, u.oneCell' = true)
    (h63 : n + m ≤ maxLen) (hbytes : (n + m) * bytes ≤ 140737488355328) (hbase : base ≤ w.heap.size)
    (h : ∀ v' w', w'.ownsRow base e size v' (n + m) (xs ++ news) → w.grownBy w' v.ownBlock → (∀ k, v'.ownBlock = some k → v.ownBlock = some k ∨ w.heap.size ≤ k) → K (a.put o.dst v') w') :
    if Region.wanted o (yielded ops a.tmps) = true then Oper.wp P o a w K Q else E := by
  have hw : Region.wanted o (yielded ops a.tmps) = true := by simp [Region.wanted, hgd]
  rw [if_pos hw]
  obtain ⟨v', w', hr, h2, h3, h4⟩ := run_append_at (P := P) w base t o.type e i z size bytes ht hi hz hsize hby hzs hsz v n xs hown ad m c news hl hnews h1 h63 hbytes hbase
  unfold Oper.wp execOp
  simp only [ho, resolve, invoke, builtin, Sem.run_bind, Sem.run_pure, Result.andThen_ok, List.map_toArray, List.map_cons, List.map_nil, hs, hx, hr]
  exact h v' w' h2 h3 h4
end Go.Proofs.YthgbhnedfdnfpaaGreatDoor

/- Canonical texts, the model's: walks and parts. -/
namespace Go.Proofs.YthgbhnedfdnfpaaGreatDoor
set_option maxRecDepth 100000
open Go.RowKit
set_option linter.unusedVariables false
set_option linter.unusedSimpArgs false

theorem nv_append (a b : List Nat) : nv (a ++ b) = nv a ++ nv b := by simp [nv]
theorem nv_one (l : List Nat) : ∀ u ∈ nv l, u.oneCell' = true := by
  intro u hu
  unfold nv at hu
  obtain ⟨k, _, rfl⟩ := List.mem_map.1 hu
  rfl
theorem flat_drop (f : Nat → List Nat) (K : List Nat) (k : Nat) (h : k < K.length) : (K.drop k).flatMap f = f (K.getD k 0) ++ (K.drop (k + 1)).flatMap f := by
  rw [List.drop_eq_getElem_cons h, List.flatMap_cons]
  simp [List.getD_eq_getElem?_getD, h]
theorem own_news1 {w : World} {B n : Nat} {T : TypeId} {g c : Nat} {xs : List Value} (h : w.ownsRow B T 1 (.slice (some ⟨g, 0, none⟩) n c) n xs) : ∀ j u, xs[j]? = some u → w.cell? ((⟨g, 0, none⟩ : Addr).add j) = some u := by
  intro j u hu
  have hj : j < n * 1 := by have := (List.getElem?_eq_some_iff.1 hu).1; rw [h.1] at this; exact this
  have hadd : (⟨g, 0, none⟩ : Addr).add j = ⟨g, j, none⟩ := by unfold Addr.add; split <;> simp_all
  rw [hadd, World.ownsRow.cellAt h j hj, hu]
theorem own_row1 {w : World} {B n : Nat} {T : TypeId} {v : Value} {xs : List Value} (h : w.ownsRow B T 1 v n xs) (hn : 0 < n) : ∃ g c, v = .slice (some ⟨g, 0, none⟩) n c := by
  rcases h.2 with ⟨_, h0⟩ | ⟨g, cap, cur, hv, _⟩
  · omega
  · exact ⟨g, cap, hv⟩
theorem walk_pos (cs : List Cls) (f i : Nat) : 0 < (walkP cs (f + 1) i).length := by unfold walkP; simp
theorem walk_le {cs : List Cls} (T : TreeF cs) (f i : Nat) (hf : f ≤ 9) (hi : i < cs.length) : (walkP cs f i).length ≤ 1000000 := by
  have h2 := walk_few T f i hi
  have h3 := (rateOk_r (okL_ids cs 0 T.ok i hi).2.2).2
  have h0 := (rateOk_r (okL_ids cs 0 T.ok i hi).2.2).1
  have h4 : (f : Int) * (cs.getD i cls0).r ≤ 9 * (cs.getD i cls0).r := Int.mul_le_mul_of_nonneg_right (by omega) (by omega)
  omega
theorem wk_step {w wr w3 w4 : World} {o : Obj} {B g : Nat} {v v' : Value} {ks m : List Nat} (hb : Aft w o wr) (hB : w.heap.size + 1 ≤ wr.heap.size) (ho : wr.ownsRow (w.heap.size + 1) 3 1 v ks.length (nv ks)) (b3 : Below wr.heap.size wr w3)
    (h' : w4.ownsRow (w.heap.size + 1) 3 1 v' (ks.length + m.length) (nv ks ++ nv m)) (hg : w3.grownBy w4 v.ownBlock) :
    w4.ownsRow (w.heap.size + 1) 3 1 v' (ks ++ m).length (nv (ks ++ m)) ∧ Aft w o w4 := by
  refine ⟨by rw [nv_append, List.length_append]; exact h', ?_⟩
  have h3 : Aft w o w3 := hb.on b3
  have : Below (w.alloc o).heap.size (w.alloc o) w4 := Below.grown h3 hg (Nat.le_trans (by simp; omega) b3.size) (fun g' hv => by have := (World.ownsRow.lt ho g' hv).1; simp; omega)
  exact this
def WkRel (w : World) (o : Obj) (K W : List Nat) (g : Nat → List Nat) (a i : Value) (wr : World) : Prop :=
  ∃ (k : Nat) (ks : List Nat), k ≤ K.length ∧ i = .int .i64 k ∧ Aft w o wr ∧ w.heap.size + 1 ≤ wr.heap.size ∧ wr.ownsRow (w.heap.size + 1) 3 1 a ks.length (nv ks) ∧ Hid (ks ++ (K.drop k).flatMap g = W)
theorem wk_zero (w : World) (o : Obj) (q : Nat) (B : Nat) : ((w.alloc o).alloc (.cells #[.int .i64 (q : Int)] 3)).ownsRow (w.heap.size + 1) 3 1 (.slice (some ⟨w.heap.size + 1, 0, none⟩) 1 1) 1 (nv [q]) := by
  have h := World.ownsRow_lit (base := w.heap.size + 1) (e := 3) (size := 1) (w.alloc o) #[.int .i64 (q : Int)] 1 (by simp) (by unfold maxLen; omega) rfl
  simpa [nv] using h
theorem inx_grown {w w' : World} {ad : Option Addr} {n : Nat} {xs : List Value} {row : Option Nat} (h : InX w ad n xs) (hg : w.grownBy w' row) (hne : ∀ g, ad = some ⟨g, 0, none⟩ → row ≠ some g) : InX w' ad n xs := fun hn => by
  obtain ⟨g, ha, ht, hgl⟩ := h hn
  refine ⟨g, ha, fun j hj => ?_, Nat.lt_of_lt_of_le hgl hg.size⟩
  have hb := hg.block g hgl (fun e => hne g ha e.symm)
  rw [World.cell?_of_block (a := ⟨g, j, none⟩) hb]
  exact ht j hj
set_option maxHeartbeats 6400000 in
theorem prWalk_any (s : ByteArray) (ac af : Option Addr) (n cc m cf : Nat) (d : Int) (cs : List Cls) (T : TreeF cs) : ∀ (f q : Nat) (w : World) (HI : Hid (InX w ac n (clsCs cs))) (hn : Hid (cs.length = n)) (hq : q < n) (hf : f ≤ 9) (hd : 9 ≤ f + depP cs q),
    Calls Tryz.prog 25 #[(.agg #[.string s, .slice ac n cc, .slice af m cf, .int .i64 d]), .int .i64 q] w (SaysNs w (walkP cs f q))
  | 0, q, w, HI, hn, hq, hf, hd => absurd hd (by have := (way_len T (k := q) (by have := hn.out; omega)).2; omega)
  | f + 1, q, w, HI, hn, hq, hf, hd => by
    obtain ⟨i0, hi, hz0, hz1, hz2⟩ := info_parts infoI
    have hql : q < cs.length := by have := hn.out; omega
    have hm : n ≤ 1048576 := by have := hn.out; have := T.n24; omega
    have HKD := Lib.hid (fun w HI => cfKids_any s ac af n cc m cf d cs q w HI hn hm hq)
    have A0 := Lib.hid ((Aft.refl w (Obj.cells #[.string s, .slice ac n cc, .slice af m cf, .int .i64 d] 26)).alloc (Obj.cells #[.int .i64 (q : Int)] 3))
    have hle := walk_le T (f + 1) q hf hql
    have HX : Hid (q :: (kids cs (cs.getD q cls0).i).flatMap (walkP cs f) = walkP cs (f + 1) q) := Lib.hid rfl
    have HKM := Lib.hid (fun k (h : k < (kids cs (cs.getD q cls0).i).length) => kids_at_lt cs (cs.getD q cls0).i k h)
    have HREC : Hid (∀ j ∈ kids cs (cs.getD q cls0).i, j < n ∧ 0 < (walkP cs f j).length ∧ ∀ w, Hid (InX w ac n (clsCs cs)) → Calls Tryz.prog 25 #[(.agg #[.string s, .slice ac n cc, .slice af m cf, .int .i64 d]), .int .i64 j] w (SaysNs w (walkP cs f j))) := Lib.hid (fun j hj => by
      have hj1 := (kids_mem hj).1
      have hj2 := dep_kid T hql hj
      have hj8 := (way_len T hj1).2
      have hjn : j < n := by have := hn.out; omega
      have hf1 : ∃ e, f = e + 1 := ⟨f - 1, by omega⟩
      obtain ⟨e, he⟩ := hf1
      exact ⟨hjn, by rw [he]; exact walk_pos cs e j, fun w HI => prWalk_any s ac af n cc m cf d cs T f j w HI hn hjn (by omega) (by omega)⟩)
    have hKn := kids_len24 T (cs.getD q cls0).i
    generalize walkP cs (f + 1) q = Wt at HX hle ⊢
    generalize kids cs (cs.getD q cls0).i = K at HKD HX HKM HREC hKn
    have HZ := Lib.hid (wk_zero w (Obj.cells #[.string s, .slice ac n cc, .slice af m cf, .int .i64 d] 26) q 0)
    go_enter Tryz.func25, Tryz.ntmps25
    go_wp2_with (go_at_call 50; refine (HKD.out _ (Lib.hid (HI.out.below A0.out.all.2))).mono ?_; rintro e w2 ⟨v, rfl, o2, b2⟩; have A2 := Lib.hid (A0.out.on b2); have Z2 := Lib.hid (own_low HZ.out b2 (Nat.le_refl _)); have S2 : Hid (w.heap.size + 1 ≤ w2.heap.size) := Lib.hid (by have := b2.size; simp at this; omega); have HKB : Hid (∀ g, v.ownBlock = some g → w.heap.size + 1 < g ∧ g < w2.heap.size) := Lib.hid (fun g hv => by have := World.ownsRow.lt o2 g hv; simp at this; omega); obtain ⟨ad, cK, rfl, iK⟩ := own_in o2; have HIK := Lib.hid iK; clear b2 o2 iK)
    go_loopw [5, 14] (fun a i wr => WkRel w (Obj.cells #[.string s, .slice ac n cc, .slice af m cf, .int .i64 d] 26) K Wt (walkP cs f) a i wr ∧ InX wr ad K.length (nv K) ∧ w2.heap.size ≤ wr.heap.size ∧ (∀ g, a.ownBlock = some g → g = w.heap.size + 1 ∨ w2.heap.size ≤ g)) (fun _ i _ => K.length - (intOf i).toNat)
    case atStart => exact ⟨⟨0, [q], Nat.zero_le _, rfl, A2.out, S2.out, Z2.out, by rw [List.drop_zero]; exact HX⟩, HIK.out, Nat.le_refl _, fun g hv => by cases hv; exact .inl rfl⟩
    case round =>
      obtain ⟨⟨k, ks, hk, rfl, hb, hB, ho, HP⟩, hIKr, hw2, hloc⟩ := hrel
      have HIKr := Lib.hid hIKr
      have HLOC := Lib.hid hloc
      have HB := Lib.hid hb
      have HO := Lib.hid ho
      have HB1 := Lib.hid hB
      by_cases hlt : k < K.length
      · obtain ⟨gk, rfl, hkt, hkg⟩ := hIKr (by omega)
        obtain ⟨j, hj⟩ : ∃ j, K.getD k 0 = j := ⟨_, rfl⟩
        have e0 := hkt.nat k hlt j hj
        have hjm := HKM.out k hlt
        rw [hj] at hjm
        have HRJ := Lib.hid (HREC.out j hjm).2.2
        have hpos := (HREC.out j hjm).2.1
        have HE := Lib.hid (flat_drop (walkP cs f) K k hlt)
        rw [hj] at HE
        generalize walkP cs f j = Wj at HRJ HE hpos
        have HX2 : Hid ((ks ++ Wj) ++ (K.drop (k + 1)).flatMap (walkP cs f) = Wt) := Lib.hid (by rw [List.append_assoc, ← HE.out, HP.out])
        have hzz : ks.length + Wj.length ≤ 1000000 := by
          have := congrArg List.length HX2.out
          simp only [List.length_append] at this
          omega
        obtain ⟨q0, q1, q2, q3, _⟩ := hb.all.1
        have HIr := Lib.hid (HI.out.below hb.all.2)
        have HKG := Lib.hid (HKB.out gk rfl)
        clear hkt hj hjm hb hIKr hloc ho
        go_wp2_with (first | (go_at_call 25; refine (HRJ.out _ HIr).mono ?_; rintro e w3 ⟨v3, rfl, o3, b3⟩; obtain ⟨g3, c3, rfl⟩ := own_row1 o3 hpos; have B3 := Lib.hid b3; have O3 := Lib.hid o3; have OW := Lib.hid (own_low HO.out b3 (Nat.le_refl _)); clear b3 o3) | (at_builtin; refine wpList_append_at _ rfl _ _ 33 rfl (w.heap.size + 1) 3 i0 (.int .i64 0) 1 8 Tryz.underlying33 hi hz0 hz1 hz2 rfl (by decide) _ _ _ rfl OW.out ⟨g3, 0, none⟩ Wj.length c3 (nv Wj) rfl (by rw [nv_length, Nat.mul_one]) (own_news1 O3.out) (nv_one _) (by unfold maxLen; omega) (by omega) (Nat.le_trans HB1.out B3.out.size) ?_; intro v' w4 hown hgrow hloc; have HOW := Lib.hid hown; have HGR := Lib.hid hgrow; have HLC := Lib.hid hloc; clear hown hgrow hloc))
        go_roundw
        case rel =>
          have q := wk_step (B := 0) (g := 0) HB.out HB1.out HO.out B3.out HOW.out HGR.out
          refine ⟨⟨k + 1, ks ++ Wj, by omega, by go_num, q.2, Nat.le_trans HB1.out (Nat.le_trans B3.out.size HGR.out.size), q.1, HX2⟩, inx_grown (HIKr.out.below B3.out) HGR.out (fun g hg hv => ?_), Nat.le_trans hw2 (Nat.le_trans B3.out.size HGR.out.size), fun g hv => ?_⟩
          · cases hg
            have := HKG.out
            rcases HLOC.out _ hv with h | h <;> omega
          · rcases HLC.out g hv with h | h
            · exact HLOC.out g h
            · exact .inr (Nat.le_trans hw2 (Nat.le_trans B3.out.size h))
        case measure => simp [intOf]; omega
      · have HX2 : Hid (ks = Wt) := Lib.hid (by have := HP.out; rw [List.drop_eq_nil_of_le (by omega)] at this; simpa using this)
        clear hb
        go_wp2_with fail
        go_ret
        exact ⟨_, rfl, by rw [← HX2.out]; exact own_base HO.out (Nat.le_succ _), HB.out.all.2⟩
end Go.Proofs.YthgbhnedfdnfpaaGreatDoor
