import Derived.Test.YtkpocljlmbihcaaDoorPkh
import Derived.Laws.AppendOwn
import Derived.ArgAppend
import Derived.Test.YtkpocljlmbihcaaDoorPkq
import Derived.Test.YtkpocljlmbihcaaDoorPkr
import Derived.Test.YtkpocljlmbihcaaDoorPki
/- An append onto a row of the call's own: where the new row lies. -/
namespace Go.Proofs.YtkpocljlmbihcaaDoor
set_option maxRecDepth 100000
open Go.RowKit
set_option linter.unusedVariables false

theorem run_append_at {P : Program} (w : World) (base : Nat) (t ty e : TypeId) (i : TypeInfo) (z : Value) (size bytes : Nat) (ht : P.underlying t = some (.slice e)) (hi : P.info? e = some i) (hz : i.zero = some z)
    (hsize : i.size = size) (hby : i.bytes = bytes) (hzs : z.cells.size = size) (hsz : 0 < size)
    (v : Value) (n : Nat) (xs : List Value) (hown : w.ownsRow base e size v n xs)
    (a : Addr) (m c : Nat) (news : List Value) (hl : news.length = m * size) (hnews : ∀ j u, news[j]? = some u → w.cell? (a.add j) = some u) (h1 : ∀ u ∈ news, u.oneCell' = true)
    (h63 : n + m ≤ maxLen) (hbytes : (n + m) * bytes ≤ 140737488355328) (hbase : base ≤ w.heap.size) :
    ∃ v' w', (Builtin.append_ #[t, t] ty #[v, .slice (some a) m c]).run P w = .ok v' w' ∧ w'.ownsRow base e size v' (n + m) (xs ++ news) ∧ w.grownBy w' v.ownBlock ∧ (∀ k, v'.ownBlock = some k → v.ownBlock = some k ∨ w.heap.size ≤ k) := by
  obtain ⟨v', w', hr, h2, h3, _⟩ := run_append_own (P := P) w base t ty e i z size bytes ht hi hz hsize hby hzs hsz v n xs hown a m c news hl hnews h1 h63 hbytes hbase
  refine ⟨v', w', hr, h2, h3, ?_⟩
  rcases hown.2 with ⟨rfl, rfl⟩ | ⟨g, cap, cur, rfl, hbg, hg, hnc, hcm, hcs, htake⟩
  · have hx : xs = [] := List.eq_nil_of_length_eq_zero (by simpa using hown.1)
    subst hx
    obtain ⟨v2, w2, hr2, q2, _, _⟩ := run_append_own (P := P) w w.heap.size t ty e i z size bytes ht hi hz hsize hby hzs hsz (.slice none 0 0) 0 [] (World.ownsRow_nil w _ e size) a m c news hl hnews h1 h63 hbytes (Nat.le_refl _)
    rw [hr] at hr2
    cases hr2
    exact fun k hk => .inr (World.ownsRow.lt q2 k hk).1
  · by_cases hroom : n + m ≤ cap
    · subst hsize
      have hfit : n * i.size + news.length ≤ cur.size := by rw [hl, hcs, ← Nat.add_mul]; exact Nat.mul_le_mul_right _ hroom
      have hr2 := run_append_room (P := P) w t ty e i ht hi g n cap cur hg a m c news hl hnews h1 hroom hfit
      rw [hr] at hr2
      cases hr2
      exact fun k hk => .inl hk
    · obtain ⟨v2, w2, hr2, q2, _⟩ := run_append_arg_grows (P := P) w t ty e i z size bytes ht hi hz hsize hby hzs hsz ⟨g, 0, none⟩ n cap xs hown.1 (hown.cells (g := g) rfl) a m c news hl hnews (by omega) h63 hbytes
      rw [hr] at hr2
      cases hr2
      exact fun k hk => .inr (World.ownsRow.lt q2 k hk).1
theorem wpList_append_at {P : Program} (w : World) {ops : Array Oper} {rest : List Oper} {o : Oper} {a : Act} {Q : Exit → Act → World → Prop} (hgd : o.guard = none) (s x : Operand) (t : TypeId)
    (ho : o.op = .call { callee := .builtin .append, args := #[s, x], argTypes := #[t, t] })
    (base : Nat) (e : TypeId) (i : TypeInfo) (z : Value) (size bytes : Nat) (ht : P.underlying t = some (.slice e)) (hi : P.info? e = some i) (hz : i.zero = some z)
    (hsize : i.size = size) (hby : i.bytes = bytes) (hzs : z.cells.size = size) (hsz : 0 < size)
    (v : Value) (n : Nat) (xs : List Value) (hs : a.eval s = v) (hown : w.ownsRow base e size v n xs)
    (ad : Addr) (m c : Nat) (news : List Value) (hx : a.eval x = .slice (some ad) m c) (hl : news.length = m * size) (hnews : ∀ j u, news[j]? = some u → w.cell? (ad.add j) = some u) (h1 : ∀ u ∈ news, u.oneCell' = true)
    (h63 : n + m ≤ maxLen) (hbytes : (n + m) * bytes ≤ 140737488355328) (hbase : base ≤ w.heap.size)
    (h : ∀ v' w', w'.ownsRow base e size v' (n + m) (xs ++ news) → w.grownBy w' v.ownBlock → (∀ k, v'.ownBlock = some k → v.ownBlock = some k ∨ w.heap.size ≤ k) → wpList P ops Q rest (a.put o.dst v') w') : wpList P ops Q (o :: rest) a w := by
  obtain ⟨v', w', hr, h2, h3, h4⟩ := run_append_at (P := P) w base t o.type e i z size bytes ht hi hz hsize hby hzs hsz v n xs hown ad m c news hl hnews h1 h63 hbytes hbase
  refine wpList_plain hgd fun K hK => ?_
  unfold Oper.wp execOp
  simp only [ho, resolve, invoke, builtin, Sem.run_bind, Sem.run_pure, Result.andThen_ok, List.map_toArray, List.map_cons, List.map_nil, hs, hx, hr]
  exact hK _ _ (h v' w' h2 h3 h4)
theorem step_append_at {P : Program} (w : World) {ops : Array Oper} {o : Oper} {a : Act} {K : Act → World → Prop} {Q : Exit → Act → World → Prop} {E : Prop} (hgd : o.guard = none) (s x : Operand) (t : TypeId)
    (ho : o.op = .call { callee := .builtin .append, args := #[s, x], argTypes := #[t, t] })
    (base : Nat) (e : TypeId) (i : TypeInfo) (z : Value) (size bytes : Nat) (ht : P.underlying t = some (.slice e)) (hi : P.info? e = some i) (hz : i.zero = some z)
    (hsize : i.size = size) (hby : i.bytes = bytes) (hzs : z.cells.size = size) (hsz : 0 < size)
    (v : Value) (n : Nat) (xs : List Value) (hs : a.eval s = v) (hown : w.ownsRow base e size v n xs)
    (ad : Addr) (m c : Nat) (news : List Value) (hx : a.eval x = .slice (some ad) m c) (hl : news.length = m * size) (hnews : ∀ j u, news[j]? = some u → w.cell? (ad.add j) = some u) (h1 : ∀ u ∈ news, u.oneCell' = true)
    (h63 : n + m ≤ maxLen) (hbytes : (n + m) * bytes ≤ 140737488355328) (hbase : base ≤ w.heap.size)
    (h : ∀ v' w', w'.ownsRow base e size v' (n + m) (xs ++ news) → w.grownBy w' v.ownBlock → (∀ k, v'.ownBlock = some k → v.ownBlock = some k ∨ w.heap.size ≤ k) → K (a.put o.dst v') w') :
    if Region.wanted o (yielded ops a.tmps) = true then Oper.wp P o a w K Q else E := by
  have hw : Region.wanted o (yielded ops a.tmps) = true := by simp [Region.wanted, hgd]
  rw [if_pos hw]
  obtain ⟨v', w', hr, h2, h3, h4⟩ := run_append_at (P := P) w base t o.type e i z size bytes ht hi hz hsize hby hzs hsz v n xs hown ad m c news hl hnews h1 h63 hbytes hbase
  unfold Oper.wp execOp
  simp only [ho, resolve, invoke, builtin, Sem.run_bind, Sem.run_pure, Result.andThen_ok, List.map_toArray, List.map_cons, List.map_nil, hs, hx, hr]
  exact h v' w' h2 h3 h4
end Go.Proofs.YtkpocljlmbihcaaDoor

/- Canonical texts, the model's: walks and parts. -/
namespace Go.Proofs.YtkpocljlmbihcaaDoor
set_option maxRecDepth 100000
open Go.RowKit
set_option linter.unusedVariables false
set_option linter.unusedSimpArgs false

theorem nv_append (a b : List Nat) : nv (a ++ b) = nv a ++ nv b := by simp [nv]
theorem nv_one (l : List Nat) : ∀ u ∈ nv l, u.oneCell' = true := by
  intro u hu
  unfold nv at hu
  obtain ⟨k, _, rfl⟩ := List.mem_map.1 hu
  rfl
theorem flat_drop (f : Nat → List Nat) (K : List Nat) (k : Nat) (h : k < K.length) : (K.drop k).flatMap f = f (K.getD k 0) ++ (K.drop (k + 1)).flatMap f := by
  rw [List.drop_eq_getElem_cons h, List.flatMap_cons]
  simp [List.getD_eq_getElem?_getD, h]
theorem own_news1 {w : World} {B n : Nat} {T : TypeId} {g c : Nat} {xs : List Value} (h : w.ownsRow B T 1 (.slice (some ⟨g, 0, none⟩) n c) n xs) : ∀ j u, xs[j]? = some u → w.cell? ((⟨g, 0, none⟩ : Addr).add j) = some u := by
  intro j u hu
  have hj : j < n * 1 := by have := (List.getElem?_eq_some_iff.1 hu).1; rw [h.1] at this; exact this
  have hadd : (⟨g, 0, none⟩ : Addr).add j = ⟨g, j, none⟩ := by unfold Addr.add; split <;> simp_all
  rw [hadd, World.ownsRow.cellAt h j hj, hu]
theorem own_some {w : World} {B n : Nat} {T : TypeId} {v : Value} {xs : List Value} (h : w.ownsRow B T 1 v n xs) (hn : 0 < n) : ∃ g c, v = .slice (some ⟨g, 0, none⟩) n c := by
  rcases h.2 with ⟨_, h0⟩ | ⟨g, cap, cur, hv, _⟩
  · omega
  · exact ⟨g, cap, hv⟩
theorem walk_pos (cs : List Cls) (f i : Nat) : 0 < (walkP cs (f + 1) i).length := by unfold walkP; simp
theorem walk_le {cs : List Cls} (T : TreeF cs) (f i : Nat) (hf : f ≤ 9) (hi : i < cs.length) : (walkP cs f i).length ≤ 1000000 := by
  have h2 := walk_few T f i hi
  have h3 := (rateOk_r (okL_ids cs 0 T.ok i hi).2.2).2
  have h0 := (rateOk_r (okL_ids cs 0 T.ok i hi).2.2).1
  have h4 : (f : Int) * (cs.getD i cls0).r ≤ 9 * (cs.getD i cls0).r := Int.mul_le_mul_of_nonneg_right (by omega) (by omega)
  omega
theorem wk_step {w wr w3 w4 : World} {o : Obj} {B g : Nat} {v v' : Value} {ks m : List Nat} (hb : Aft w o wr) (hB : w.heap.size + 1 ≤ wr.heap.size) (ho : wr.ownsRow (w.heap.size + 1) 3 1 v ks.length (nv ks)) (b3 : Below wr.heap.size wr w3)
    (h' : w4.ownsRow (w.heap.size + 1) 3 1 v' (ks.length + m.length) (nv ks ++ nv m)) (hg : w3.grownBy w4 v.ownBlock) :
    w4.ownsRow (w.heap.size + 1) 3 1 v' (ks ++ m).length (nv (ks ++ m)) ∧ Aft w o w4 := by
  refine ⟨by rw [nv_append, List.length_append]; exact h', ?_⟩
  have h3 : Aft w o w3 := hb.on b3
  have : Below (w.alloc o).heap.size (w.alloc o) w4 := Below.grown h3 hg (Nat.le_trans (by simp; omega) b3.size) (fun g' hv => by have := (World.ownsRow.lt ho g' hv).1; simp; omega)
  exact this
def WkRel (w : World) (o : Obj) (K W : List Nat) (g : Nat → List Nat) (a i : Value) (wr : World) : Prop :=
  ∃ (k : Nat) (ks : List Nat), k ≤ K.length ∧ i = .int .i64 k ∧ Aft w o wr ∧ w.heap.size + 1 ≤ wr.heap.size ∧ wr.ownsRow (w.heap.size + 1) 3 1 a ks.length (nv ks) ∧ Hid (ks ++ (K.drop k).flatMap g = W)
theorem wk_zero (w : World) (o : Obj) (q : Nat) (B : Nat) : ((w.alloc o).alloc (.cells #[.int .i64 (q : Int)] 3)).ownsRow (w.heap.size + 1) 3 1 (.slice (some ⟨w.heap.size + 1, 0, none⟩) 1 1) 1 (nv [q]) := by
  have h := World.ownsRow_lit (base := w.heap.size + 1) (e := 3) (size := 1) (w.alloc o) #[.int .i64 (q : Int)] 1 (by simp) (by unfold maxLen; omega) rfl
  simpa [nv] using h
theorem inx_grown {w w' : World} {ad : Option Addr} {n : Nat} {xs : List Value} {row : Option Nat} (h : InX w ad n xs) (hg : w.grownBy w' row) (hne : ∀ g, ad = some ⟨g, 0, none⟩ → row ≠ some g) : InX w' ad n xs := fun hn => by
  obtain ⟨g, ha, ht, hgl⟩ := h hn
  refine ⟨g, ha, fun j hj => ?_, Nat.lt_of_lt_of_le hgl hg.size⟩
  have hb := hg.block g hgl (fun e => hne g ha e.symm)
  rw [World.cell?_of_block (a := ⟨g, j, none⟩) hb]
  exact ht j hj
theorem slice_block {w : World} {B n : Nat} {T : TypeId} {g c m : Nat} {xs : List Value} (h : w.ownsRow B T 1 (.slice (some ⟨g, 0, none⟩) m c) n xs) : B ≤ g ∧ g < w.heap.size := World.ownsRow.lt h g rfl
set_option maxHeartbeats 6400000 in
theorem prWalk_any (s : ByteArray) (ac af : Option Addr) (n cc m cf : Nat) (d : Int) (cs : List Cls) (T : TreeF cs) : ∀ (f q : Nat) (w : World) (HI : Hid (InX w ac n (clsCs cs))) (hn : Hid (cs.length = n)) (hq : q < n) (hf : f ≤ 9) (hd : 9 ≤ f + depP cs q),
    Calls Tryd.prog 33 #[(.agg #[.string s, .slice ac n cc, .slice af m cf, .int .i64 d]), .int .i64 q] w (SaysNs w (walkP cs f q))
  | 0, q, w, HI, hn, hq, hf, hd => absurd hd (by have := (way_len T (k := q) (by have := hn.out; omega)).2; omega)
  | f + 1, q, w, HI, hn, hq, hf, hd => by
    obtain ⟨i0, hi, hz0, hz1, hz2⟩ := info_parts infoI
    have hql : q < cs.length := by have := hn.out; omega
    have hm : n ≤ 1048576 := by have := hn.out; have := T.n24; omega
    have HKD := Lib.hid (fun w HI => cfKids_any s ac af n cc m cf d cs q w HI hn hm hq)
    have A0 := Lib.hid ((Aft.refl w (Obj.cells #[.string s, .slice ac n cc, .slice af m cf, .int .i64 d] 44)).alloc (Obj.cells #[.int .i64 (q : Int)] 3))
    have hle := walk_le T (f + 1) q hf hql
    have HX : Hid (q :: (kids cs (cs.getD q cls0).i).flatMap (walkP cs f) = walkP cs (f + 1) q) := Lib.hid rfl
    have HKM := Lib.hid (fun k (h : k < (kids cs (cs.getD q cls0).i).length) => kids_at_lt cs (cs.getD q cls0).i k h)
    have HREC : Hid (∀ j ∈ kids cs (cs.getD q cls0).i, j < n ∧ 0 < (walkP cs f j).length ∧ ∀ w, Hid (InX w ac n (clsCs cs)) → Calls Tryd.prog 33 #[(.agg #[.string s, .slice ac n cc, .slice af m cf, .int .i64 d]), .int .i64 j] w (SaysNs w (walkP cs f j))) := Lib.hid (fun j hj => by
      have hj1 := (kids_mem hj).1
      have hj2 := dep_kid T hql hj
      have hj8 := (way_len T hj1).2
      have hjn : j < n := by have := hn.out; omega
      have hf1 : ∃ e, f = e + 1 := ⟨f - 1, by omega⟩
      obtain ⟨e, he⟩ := hf1
      exact ⟨hjn, by rw [he]; exact walk_pos cs e j, fun w HI => prWalk_any s ac af n cc m cf d cs T f j w HI hn hjn (by omega) (by omega)⟩)
    have hKn := kids_len24 T (cs.getD q cls0).i
    generalize walkP cs (f + 1) q = Wt at HX hle ⊢
    generalize kids cs (cs.getD q cls0).i = K at HKD HX HKM HREC hKn
    have HZ := Lib.hid (wk_zero w (Obj.cells #[.string s, .slice ac n cc, .slice af m cf, .int .i64 d] 44) q 0)
    go_enter Tryd.func33, Tryd.ntmps33
    go_wp2_with (go_at_call 57; refine (HKD.out _ (Lib.hid (HI.out.below A0.out.all.2))).mono ?_; rintro e w2 ⟨v, rfl, o2, b2⟩; have A2 := Lib.hid (A0.out.on b2); have Z2 := Lib.hid (own_low HZ.out b2 (Nat.le_refl _)); have S2 : Hid (w.heap.size + 1 ≤ w2.heap.size) := Lib.hid (by have := b2.size; simp at this; omega); have HKB : Hid (∀ g, v.ownBlock = some g → w.heap.size + 1 < g ∧ g < w2.heap.size) := Lib.hid (fun g hv => by have := World.ownsRow.lt o2 g hv; simp at this; omega); obtain ⟨ad, cK, rfl, iK⟩ := own_in o2; have HIK := Lib.hid iK; clear b2 o2 iK)
    go_loopw [5, 14] (fun a i wr => WkRel w (Obj.cells #[.string s, .slice ac n cc, .slice af m cf, .int .i64 d] 44) K Wt (walkP cs f) a i wr ∧ InX wr ad K.length (nv K) ∧ w2.heap.size ≤ wr.heap.size ∧ (∀ g, a.ownBlock = some g → g = w.heap.size + 1 ∨ w2.heap.size ≤ g)) (fun _ i _ => K.length - (intOf i).toNat)
    case atStart => exact ⟨⟨0, [q], Nat.zero_le _, rfl, A2.out, S2.out, Z2.out, by rw [List.drop_zero]; exact HX⟩, HIK.out, Nat.le_refl _, fun g hv => by cases hv; exact .inl rfl⟩
    case round =>
      obtain ⟨⟨k, ks, hk, rfl, hb, hB, ho, HP⟩, hIKr, hw2, hloc⟩ := hrel
      have HIKr := Lib.hid hIKr
      have HLOC := Lib.hid hloc
      have HB := Lib.hid hb
      have HO := Lib.hid ho
      have HB1 := Lib.hid hB
      by_cases hlt : k < K.length
      · obtain ⟨gk, rfl, hkt, hkg⟩ := hIKr (by omega)
        obtain ⟨j, hj⟩ : ∃ j, K.getD k 0 = j := ⟨_, rfl⟩
        have e0 := hkt.nat k hlt j hj
        have hjm := HKM.out k hlt
        rw [hj] at hjm
        have HRJ := Lib.hid (HREC.out j hjm).2.2
        have hpos := (HREC.out j hjm).2.1
        have HE := Lib.hid (flat_drop (walkP cs f) K k hlt)
        rw [hj] at HE
        generalize walkP cs f j = Wj at HRJ HE hpos
        have HX2 : Hid ((ks ++ Wj) ++ (K.drop (k + 1)).flatMap (walkP cs f) = Wt) := Lib.hid (by rw [List.append_assoc, ← HE.out, HP.out])
        have hzz : ks.length + Wj.length ≤ 1000000 := by
          have := congrArg List.length HX2.out
          simp only [List.length_append] at this
          omega
        obtain ⟨q0, q1, q2, q3, _⟩ := hb.all.1
        have HIr := Lib.hid (HI.out.below hb.all.2)
        have HKG := Lib.hid (HKB.out gk rfl)
        clear hkt hj hjm hb hIKr hloc ho
        go_wp2_with (first | (go_at_call 33; refine (HRJ.out _ HIr).mono ?_; rintro e w3 ⟨v3, rfl, o3, b3⟩; obtain ⟨g3, c3, rfl⟩ := own_some o3 hpos; have B3 := Lib.hid b3; have O3 := Lib.hid o3; have OW := Lib.hid (own_low HO.out b3 (Nat.le_refl _)); clear b3 o3) | (at_builtin; refine wpList_append_at _ rfl _ _ 61 rfl (w.heap.size + 1) 3 i0 (.int .i64 0) 1 8 Tryd.underlying61 hi hz0 hz1 hz2 rfl (by decide) _ _ _ rfl OW.out ⟨g3, 0, none⟩ Wj.length c3 (nv Wj) rfl (by rw [nv_length, Nat.mul_one]) (own_news1 O3.out) (nv_one _) (by unfold maxLen; omega) (by omega) (Nat.le_trans HB1.out B3.out.size) ?_; intro v' w4 hown hgrow hloc; have HOW := Lib.hid hown; have HGR := Lib.hid hgrow; have HLC := Lib.hid hloc; clear hown hgrow hloc))
        go_roundw
        case rel =>
          have q := wk_step (B := 0) (g := 0) HB.out HB1.out HO.out B3.out HOW.out HGR.out
          refine ⟨⟨k + 1, ks ++ Wj, by omega, by go_num, q.2, Nat.le_trans HB1.out (Nat.le_trans B3.out.size HGR.out.size), q.1, HX2⟩, inx_grown (HIKr.out.below B3.out) HGR.out (fun g hg hv => ?_), Nat.le_trans hw2 (Nat.le_trans B3.out.size HGR.out.size), fun g hv => ?_⟩
          · cases hg
            have := HKG.out
            rcases HLOC.out _ hv with h | h <;> omega
          · rcases HLC.out g hv with h | h
            · exact HLOC.out g h
            · exact .inr (Nat.le_trans hw2 (Nat.le_trans B3.out.size h))
        case measure => simp [intOf]; omega
      · have HX2 : Hid (ks = Wt) := Lib.hid (by have := HP.out; rw [List.drop_eq_nil_of_le (by omega)] at this; simpa using this)
        clear hb
        go_wp2_with fail
        go_ret
        exact ⟨_, rfl, by rw [← HX2.out]; exact own_base HO.out (Nat.le_succ _), HB.out.all.2⟩
end Go.Proofs.YtkpocljlmbihcaaDoor

/- Canonical texts, the model's: the text of a part. -/
namespace Go.Proofs.YtkpocljlmbihcaaDoor
set_option maxRecDepth 100000
open Go.RowKit
set_option linter.unusedVariables false
set_option linter.unusedSimpArgs false

def partT (cs : List Cls) (f l i : Nat) : ByteArray := catS (linesP cs f l i)
/-- a class of a valid tree, its numbers natural -/
structure ClX (x : Cls) (ni nr ne nb nu no nl : Nat) : Prop where
  N : ClN x ni nr ne nb nu no
  el : x.l = nl
  bl : nl ≤ 60
theorem clx {cs : List Cls} (T : TreeF cs) {q : Nat} (hq : q < cs.length) (x : Cls) (hx : cs.getD q cls0 = x) : ClX x x.i.toNat x.r.toNat x.e.toNat x.b.toNat x.u.toNat x.o.toNat x.l.toNat := by
  have h := okL_ids cs 0 T.ok q hq
  have hn := T.node q hq
  unfold nodeOk limOk at hn
  rw [hx] at h hn
  have hs : ClsSelf x = true := by
    unfold ClsSelf
    rw [inBR_yes (by omega) h.2.1, h.2.2]
    rfl
  simp only [Bool.and_eq_true] at hn
  have hl := hn.2.2
  refine ⟨cln hs, ?_, ?_⟩
  · split at hl
    · have : x.l = 0 := by simpa using hl
      omega
    · have := inBR_iff.1 hl; omega
  · split at hl
    · have : x.l = 0 := by simpa using hl
      omega
    · have := inBR_iff.1 hl; omega
theorem headT_size {cs : List Cls} (T : TreeF cs) {q : Nat} (hq : q < cs.length) : (headT (cs.getD q cls0)).size ≤ 2300000 := by
  have h := (clx T hq _ rfl).N
  have := headN_size (cs.getD q cls0).i.toNat (cs.getD q cls0).r.toNat (cs.getD q cls0).e.toNat (cs.getD q cls0).b.toNat (cs.getD q cls0).u.toNat (cs.getD q cls0).o.toNat
  have h1 := h.bi; have h2 := h.br; have h3 := h.be; have h4 := h.bb; have h5 := h.bu; have h6 := h.bo
  unfold headT
  omega
theorem line_size {cs : List Cls} (T : TreeF cs) : ∀ (f l i : Nat), i < cs.length → l + f ≤ 20 → ∀ t ∈ linesP cs f l i, t.size ≤ 3000000
  | 0, l, i, _, _, t, h => by simp [linesP] at h
  | f + 1, l, i, hi, hl, t, h => by
    have hh := headT_size T hi
    have hi2 := indS_size l
    have z1 : (⟨#[32, 123, 10]⟩ : ByteArray).size = 3 := rfl
    have z2 : (⟨#[125, 10]⟩ : ByteArray).size = 2 := rfl
    have z3 : (⟨#[32, 108, 105, 109, 105, 116, 32]⟩ : ByteArray).size = 7 := rfl
    have z4 : (⟨#[59, 10]⟩ : ByteArray).size = 2 := rfl
    unfold linesP at h
    split at h
    · rcases List.mem_cons.1 h with h | h
      · subst h
        simp only [ByteArray.size_append]
        omega
      · rcases List.mem_append.1 h with h | h
        · obtain ⟨k, hk, hkt⟩ := List.mem_flatMap.1 h
          exact line_size T f (l + 1) k (kids_mem hk).1 (by omega) t hkt
        · simp only [List.mem_singleton] at h
          subst h
          simp only [ByteArray.size_append]
          omega
    · simp only [List.mem_singleton] at h
      subst h
      have hl2 := (clx T hi _ rfl).bl
      have h3 := headS_szP (cs.getD i cls0).l.toNat
      simp only [ByteArray.size_append]
      omega
theorem partT_size {cs : List Cls} (T : TreeF cs) (f l i : Nat) (hf : f ≤ 9) (hi : i < cs.length) (hl : l + f ≤ 20) : (partT cs f l i).size ≤ 6000000000000 := by
  have h := catS_size 3000000 (linesP cs f l i) (line_size T f l i hi hl)
  rw [linesP_len] at h
  have := sizeP_le T f i hf hi
  unfold partT
  omega
theorem partT_leaf {cs : List Cls} {f l i : Nat} {x : Cls} (hx : cs.getD i cls0 = x) (h : hasK cs x.i = false) : partT cs (f + 1) l i = indS l ++ headT x ++ ⟨#[32, 108, 105, 109, 105, 116, 32]⟩ ++ headS x.l.toNat ++ ⟨#[59, 10]⟩ := by
  unfold partT linesP
  rw [hx, h, if_neg (by simp), catS_one]
theorem partT_node {cs : List Cls} {f l i : Nat} {x : Cls} (hx : cs.getD i cls0 = x) (h : hasK cs x.i = true) : partT cs (f + 1) l i = indS l ++ headT x ++ ⟨#[32, 123, 10]⟩ ++ catS ((kids cs x.i).flatMap (linesP cs f (l + 1))) ++ indS l ++ ⟨#[125, 10]⟩ := by
  unfold partT linesP
  rw [hx, h, if_pos rfl, catS_cons, catS_append, catS_one]
  simp only [app_asP]
theorem cat_drop (g : Nat → List ByteArray) (K : List Nat) (k : Nat) (h : k < K.length) : catS ((K.drop k).flatMap g) = catS (g (K.getD k 0)) ++ catS ((K.drop (k + 1)).flatMap g) := by
  rw [List.drop_eq_getElem_cons h, List.flatMap_cons, catS_append]
  simp [List.getD_eq_getElem?_getD, h]
theorem two_boxes {w w' : World} {s : ByteArray} {v1 v2 : Value} {d xi xp xr xe xb xu xo xl : Int} {t1 t2 : TypeId} (h : BX ((w.alloc (.cells #[.string s, v1, v2, .int .i64 d] t1)).alloc (.cells #[.int .i64 xi, .int .i64 xp, .int .i64 xr, .int .i64 xe, .int .i64 xb, .int .i64 xu, .int .i64 xo, .int .i64 xl] t2)) w') :
    Aft w (.cells #[.string s, v1, v2, .int .i64 d] t1) w' ∧ EightB w' (w.heap.size + 1) ⟨xi, xp, xr, xe, xb, xu, xo, xl⟩ := by
  have q := box_eights2 h
  refine ⟨q.2, ?_⟩
  have e : (w.alloc (.cells #[.string s, v1, v2, .int .i64 d] t1)).heap.size = w.heap.size + 1 := by simp
  rw [e] at q
  exact q.1
def PtRel (w : World) (o : Obj) (B : Nat) (K : List Nat) (U : ByteArray) (g : Nat → List ByteArray) (a i : Value) (wr : World) : Prop :=
  ∃ (k : Nat) (u : ByteArray), k ≤ K.length ∧ i = .int .i64 k ∧ a = .string u ∧ Aft w o wr ∧ Hid (u ++ catS ((K.drop k).flatMap g) = U)
end Go.Proofs.YtkpocljlmbihcaaDoor

/- Canonical texts, the model's: whole texts, and its functions over configurations (written by tools/gen_prr.py). -/
namespace Go.Proofs.YtkpocljlmbihcaaDoor
set_option maxRecDepth 100000
open Go.RowKit
set_option linter.unusedVariables false
set_option linter.unusedSimpArgs false

/-- what a valid configuration's parts are -/
structure GoodP (c : Cfg) : Prop where
  T : TreeF c.cs
  n1 : 1 ≤ c.cs.length
  top : cT c.cs = 1
  nm : c.s.size ≤ 8
  fl : c.fs.length ≤ 16
  fg : ∀ k, k < c.fs.length → goodFl (c.fs.getD k flt0) = true
  df : c.d = 0 ∨ (1 ≤ c.d ∧ c.d ≤ 999)
theorem leaf_id {cs : List Cls} (h0 : okL 0 cs = true) {id : Int} (h : leafB cs id = true) : 1 ≤ id ∧ id ≤ 999 := by
  unfold leafB at h
  rw [Bool.and_eq_true] at h
  obtain ⟨k, hk⟩ := Option.isSome_iff_exists.1 h.1
  have hg := fnd_get cs id k hk
  have := okL_ids cs 0 h0 k hg.1
  rw [hg.2] at this
  omega
theorem mdF_all {cs : List Cls} (h0 : okL 0 cs = true) : ∀ (fs : List Flt) (b : Int), 0 ≤ b → mdF cs b fs = true → ∀ k, k < fs.length → goodFl (fs.getD k flt0) = true
  | [], _, _, _, k, hk => absurd hk (by simp)
  | x :: r, b, hb, h, k, hk => by
    unfold mdF at h
    simp only [Bool.and_eq_true, decide_eq_true_eq] at h
    obtain ⟨⟨⟨h1, h2, h3⟩, h4⟩, h5⟩ := h
    match k, hk with
    | 0, _ =>
      simp only [List.getD_cons_zero]
      have hl := leaf_id h0 h4
      unfold goodFl FltSelf
      rw [inBR_yes (by omega) h2, h3, inBR_yes hl.1 hl.2]
      rfl
    | k + 1, hk =>
      simp only [List.getD_cons_succ]
      exact mdF_all h0 r x.o (by omega) h5 k (by simpa using hk)
theorem goodP {c : Cfg} (h : goodC c = true) : GoodP c := by
  have G := good_of h
  unfold goodC nmG fltG dfG at h
  simp only [Bool.and_eq_true, decide_eq_true_eq, Bool.or_eq_true, beq_iff_eq] at h
  obtain ⟨⟨⟨_, _, hs⟩, _⟩, _, _, ⟨hm, _⟩, hd⟩ := h
  exact ⟨G.tree, G.n1, G.top, hs, G.fl, mdF_all G.ok c.fs 0 (Int.le_refl _) hm, hd.imp id (leaf_id G.ok)⟩
theorem top_facts {cs : List Cls} (T : TreeF cs) (ht : cT cs = 1) : topF cs < cs.length ∧ (cs.getD (topF cs) cls0).p = 0 ∧ depP cs (topF cs) = 1 := by
  have h := topF_at cs (by omega)
  exact ⟨h.1, h.2, dep_none (by rw [h.2]; exact no_zero T.ok)⟩
def filtL (fs : List Flt) : List ByteArray := fs.map (fun x => indS 1 ++ lineT x ++ ⟨#[10]⟩)
def begS (s : ByteArray) (d : Int) : ByteArray := if d = 0 then ⟨#[113, 100, 105, 115, 99, 32]⟩ ++ s else ⟨#[113, 100, 105, 115, 99, 32]⟩ ++ s ++ (⟨#[32, 100, 101, 102, 97, 117, 108, 116, 32]⟩ ++ numS d.toNat)
def textP (c : Cfg) : ByteArray := begS c.s c.d ++ (⟨#[32, 123, 10]⟩ ++ partT c.cs 8 1 (topF c.cs)) ++ catS (filtL c.fs) ++ ⟨#[125, 10]⟩
theorem filt_drop (fs : List Flt) (k : Nat) (h : k < fs.length) (x : Flt) (hx : fs.getD k flt0 = x) : catS (filtL (fs.drop k)) = (indS 1 ++ lineT x ++ ⟨#[10]⟩) ++ catS (filtL (fs.drop (k + 1))) := by
  rw [drop_flt fs k h x hx]
  unfold filtL
  rw [List.map_cons, catS_cons]
theorem lineT_size {x : Flt} (h : goodFl x = true) : (lineT x).size ≤ 200000 := by
  have N := fln h
  have := lineN_size x.o.toNat x.f.toNat x.v.toNat x.m.toNat x.t.toNat
  have := N.bo; have := N.bm; have := N.bv; have := N.bt
  unfold lineT
  omega
theorem filtL_size (fs : List Flt) (h : ∀ k, k < fs.length → goodFl (fs.getD k flt0) = true) : (catS (filtL fs)).size ≤ fs.length * 200100 := by
  have := catS_size 200100 (filtL fs) (fun t ht => by
    unfold filtL at ht
    obtain ⟨x, hx, rfl⟩ := List.mem_map.1 ht
    obtain ⟨k, hk, hkx⟩ := List.mem_iff_getElem.1 hx
    have hg := h k hk
    rw [show fs.getD k flt0 = x by rw [← hkx]; simp [List.getD_eq_getElem?_getD, hk]] at hg
    have h1 := lineT_size hg
    have h2 := indS_size 1
    have z1 : (⟨#[10]⟩ : ByteArray).size = 1 := rfl
    simp only [ByteArray.size_append]
    omega)
  unfold filtL at this ⊢
  simpa using this
def TxRel (w : World) (o : Obj) (fs : List Flt) (U : ByteArray) (a i : Value) (wr : World) : Prop :=
  ∃ (k : Nat) (u : ByteArray), k ≤ fs.length ∧ i = .int .i64 k ∧ a = .string u ∧ Aft w o wr ∧ Hid (u ++ catS (filtL (fs.drop k)) = U)
end Go.Proofs.YtkpocljlmbihcaaDoor

/- A region that draws its order and, last of all, writes a cell that it has read: loads are taken first under two conditions on the world, of which the second falls once a marked operation is listed (the append that waits for the load). -/
namespace Go.Proofs.YtkpocljlmbihcaaDoor
set_option maxRecDepth 100000
open Go.RowKit
set_option linter.unusedVariables false

section
variable {P : Program} {ops : Array Oper} {Q : Exit → Act → World → Prop} {md : Region.Mode} {S T : World → Prop} {b : Nat}
/-- S, and T as long as operation b is not listed -/
def Both (S T : World → Prop) (b : Nat) (l : Array Bool) (w : World) : Prop := S w ∧ (l.getD b false = true ∨ T w)
/-- whatever order is picked: behind each operation the two conditions hold -/
def AnyL (P : Program) (md : Region.Mode) (ops : Array Oper) (Q : Exit → Act → World → Prop) (S T : World → Prop) (b : Nat) : Nat → Array Bool → Act → World → Prop
  | 0, l, a, w => Region.ready md ops l = [] ∧ Q .normal a w
  | f + 1, l, a, w => (Region.ready md ops l = [] → Q .normal a w) ∧
    ∀ i ∈ Region.ready md ops l, wpOp P ops Q i (fun a' w' => Both S T b (l.setIfInBounds i true) w' ∧ AnyL P md ops Q S T b f (l.setIfInBounds i true) a' w') a w
theorem AnyL.any : ∀ (f : Nat) (l : Array Bool) (a : Act) (w : World), AnyL P md ops Q S T b f l a w → wpAny P md ops Q f l a w
  | 0, _, _, _, h => h
  | f + 1, _, _, _, h => ⟨h.1, fun i hi => wpOp_mono (fun _ _ k => AnyL.any f _ _ _ k.2) (h.2 i hi)⟩
theorem AnyL.begin {id : Nat} {a : Act} {w : World} (hm : P.follows .mixedOrders = true) (h : AnyL P .any ops Q S T b ops.size (Array.replicate ops.size false) a w.drew) : (Code.region id ops true).wp P Q a w :=
  wp_region_any hm (AnyL.any _ _ _ _ h)
theorem AnyL.done {l : Array Bool} {a : Act} {w : World} (hr : Region.ready md ops l = []) (h : Q .normal a w) : ∀ f, AnyL P md ops Q S T b f l a w
  | 0 => ⟨hr, h⟩
  | _ + 1 => ⟨fun _ => h, fun i hi => by rw [hr] at hi; cases hi⟩
/-- operation b waits for operation i -/
def waitsB (md : Region.Mode) (ops : Array Oper) (b i : Nat) : Bool := match ops[b]? with
  | some ob => ob.after.any (fun e => Region.binds md e && (e.on == i))
  | none => false
/-- what a taken operation leans on: S, or T while b is not listed and waits for it -/
def Leans (S T R : World → Prop) (md : Region.Mode) (ops : Array Oper) (b i : Nat) (l : Array Bool) : Prop :=
  (∀ w, S w → R w) ∨ ((∀ w, T w → R w) ∧ l.getD b false = false ∧ waitsB md ops b i = true)
theorem Leans.at {R : World → Prop} {i : Nat} {l : Array Bool} {w : World} (h : Leans S T R md ops b i l) (hb : Both S T b l w) : R w := by
  rcases h with h | ⟨h, hl, _⟩
  · exact h w hb.1
  · rcases hb.2 with k | k
    · rw [hl] at k; cases k
    · exact h w k
theorem unlisted {l : Array Bool} {i : Nat} (h : l.getD i true = false) : l.getD i false = false := by
  rcases Nat.lt_or_ge i l.size with q | q
  · simp [q] at h ⊢; exact h
  · simp [Array.getElem?_eq_none q]
theorem Leans.next {R : World → Prop} {i j : Nat} {l : Array Bool} (h : Leans S T R md ops b i l) (hi : i ∈ Region.ready md ops l) (hj : j ∈ Region.ready md ops l) : Leans S T R md ops b i (l.setIfInBounds j true) := by
  rcases h with h | ⟨h, hl, hw⟩
  · exact .inl h
  · refine .inr ⟨h, ?_, hw⟩
    have hne : j ≠ b := fun e => by
      subst e
      obtain ⟨_, o, ho, hall⟩ := mem_ready.1 hj
      unfold waitsB at hw
      rw [ho] at hw
      obtain ⟨k, hk, h1, h2⟩ : ∃ e ∈ o.after, Region.binds md e = true ∧ e.on = i := by
        have := Array.any_eq_true.1 hw
        obtain ⟨x, hx, hb⟩ := this
        rw [Bool.and_eq_true, beq_iff_eq] at hb
        exact ⟨_, Array.getElem_mem hx, hb.1, hb.2⟩
      have q := hall k hk h1
      rw [h2, unlisted (mem_ready.1 hi).1] at q
      cases q
    rw [getD_set_ne false hne]
    exact hl
theorem AnyL.first {R : World → Prop} {i : Nat} {oi : Oper} {v : Value} (hi : ops[i]? = Option.some oi) (hsel : ∀ (j : Nat) (o : Oper) cs x, ops[j]? = some o → o.op ≠ .select cs x) (hib : i ≠ b)
    (hQ : ∀ c a w, Q (.panic c) (a.put oi.dst v) w → Q (.panic c) a w) : ∀ (f : Nat) (l : Array Bool) (a : Act) (w : World),
      (∀ j oj, ops[j]? = some oj → j ≠ i → l.getD j true = false → (∀ e ∈ oj.after, Region.binds md e = true → e.on ≠ i) → oi.apart ops oj = true) →
      i ∈ Region.ready md ops l → YieldsIf P ops R oi v a → Both S T b l w → Leans S T R md ops b i l →
      AnyL P md ops Q S T b f (l.setIfInBounds i true) (a.put oi.dst v) w → AnyL P md ops Q S T b (f + 1) l a w
  | f, l, a, w, hfree, hr, hy, hB, hL, H => by
    refine ⟨fun e => absurd hr (by rw [e]; exact List.not_mem_nil), fun j hj => ?_⟩
    by_cases hji : j = i
    · rw [hji]
      refine hy.wpOp hi (hL.at hB) ⟨⟨hB.1, hB.2.imp (fun q => getD_set_true q) id⟩, H⟩
    · match f, H with
      | 0, H => exact absurd (ready_mono hj hji) (by rw [H.1]; exact List.not_mem_nil)
      | f + 1, H =>
        obtain ⟨hu, oj, hoj, hall⟩ := mem_ready.1 hj
        have hno : ∀ e ∈ oj.after, Region.binds md e = true → e.on ≠ i := fun e he hb q => by
          have k := hall e he hb
          rw [q, unlisted (mem_ready.1 hr).1] at k
          cases k
        have h2 := wpOp_putIf hoj (hfree j oj hoj hji hu hno) (fun cs x => hsel i oi cs x hi) (fun cs x => hsel j oj cs x hoj) hQ hy (H.2 j (ready_mono hj hji))
        refine wpOp_mono (fun a' w' k => ?_) h2
        obtain ⟨k1, ⟨k2, k3⟩, k4⟩ := k
        rw [Array.setIfInBounds_comm _ _ (Ne.symm hji)] at k3 k4
        rw [getD_set_ne false hib] at k3
        refine ⟨⟨k2, k3⟩, AnyL.first hi hsel hib hQ f _ a' w' (fun p op hp hpi hun hn => ?_) (ready_mono hr (Ne.symm hji)) k1 ⟨k2, k3⟩ (hL.next hr hj) k4⟩
        refine hfree p op hp hpi ?_ hn
        by_cases hjp : j = p
        · rw [← hjp]; exact hu
        · rw [getD_set_ne true hjp] at hun; exact hun
/-- taken first, under S -/
theorem AnyL.takeS {i d : Nat} {oi : Oper} {v : Value} {f : Nat} {l : Array Bool} {a : Act} {w : World} (hi : ops[i]? = Option.some oi) (hd : oi.dst = Option.some d) (hs : Region.noSelect ops = true) (hf : Region.free md ops l i = true) (hr : (Region.ready md ops l).contains i = true) (hib : i ≠ b)
    (hQ : ∀ c a w, Q (.panic c) (a.put oi.dst v) w → Q (.panic c) a w) (hw : Region.wanted oi (yielded ops a.tmps) = true) (hB : Both S T b l w) (hv : ∀ w, S w → (execOp a.eval oi).run P w = .ok (.value v) w)
    (h : AnyL P md ops Q S T b f (l.setIfInBounds i true) (a.put (Option.some d) v) w) : AnyL P md ops Q S T b (f + 1) l a w :=
  AnyL.first (R := S) hi (Region.noSelect_spec hs) hib hQ f l a w (Region.free_spec hi hf) (by simpa using hr) (.inl ⟨hw, hv⟩) hB (.inl fun _ q => q) (by rw [hd]; exact h)
/-- taken first, under T, by an operation for which b waits -/
theorem AnyL.takeT {i d : Nat} {oi : Oper} {v : Value} {f : Nat} {l : Array Bool} {a : Act} {w : World} (hi : ops[i]? = Option.some oi) (hd : oi.dst = Option.some d) (hs : Region.noSelect ops = true) (hf : Region.free md ops l i = true) (hr : (Region.ready md ops l).contains i = true) (hib : i ≠ b)
    (hlb : l.getD b false = false) (hwb : waitsB md ops b i = true)
    (hQ : ∀ c a w, Q (.panic c) (a.put oi.dst v) w → Q (.panic c) a w) (hw : Region.wanted oi (yielded ops a.tmps) = true) (hB : Both S T b l w) (hv : ∀ w, T w → (execOp a.eval oi).run P w = .ok (.value v) w)
    (h : AnyL P md ops Q S T b f (l.setIfInBounds i true) (a.put (Option.some d) v) w) : AnyL P md ops Q S T b (f + 1) l a w :=
  AnyL.first (R := T) hi (Region.noSelect_spec hs) hib hQ f l a w (Region.free_spec hi hf) (by simpa using hr) (.inl ⟨hw, hv⟩) hB (.inr ⟨fun _ q => q, hlb, hwb⟩) (by rw [hd]; exact h)
def AllL (P : Program) (md : Region.Mode) (ops : Array Oper) (Q : Exit → Act → World → Prop) (S T : World → Prop) (b f : Nat) (l : Array Bool) (a : Act) (w : World) (rs : List Nat) : Prop :=
  ∀ i ∈ rs, wpOp P ops Q i (fun a' w' => Both S T b (l.setIfInBounds i true) w' ∧ AnyL P md ops Q S T b f (l.setIfInBounds i true) a' w') a w
theorem AllL.nil {f : Nat} {l : Array Bool} {a : Act} {w : World} : AllL P md ops Q S T b f l a w [] := fun _ h => by cases h
theorem AllL.cons {f : Nat} {l : Array Bool} {a : Act} {w : World} {i : Nat} {o : Oper} {rs : List Nat} (ho : ops[i]? = Option.some o)
    (h : ∀ K' : Act → World → Prop, Shut (∀ a w, Both S T b (l.setIfInBounds i true) w → AnyL P md ops Q S T b f (l.setIfInBounds i true) a w → K' a w) → if Region.wanted o (yielded ops a.tmps) = true then Oper.wp P o a w K' Q else K' (a.put o.dst undef) w)
    (hs : AllL P md ops Q S T b f l a w rs) : AllL P md ops Q S T b f l a w (i :: rs) := fun j hj => by
  rcases List.mem_cons.1 hj with e | hj
  · rw [e]
    exact wpOp_step ho (fun K' hK => h K' (fun a w hS hW => hK a w ⟨hS, hW⟩))
  · exact hs j hj
theorem AnyL.ready {rs : List Nat} {f : Nat} {l : Array Bool} {a : Act} {w : World} (hr : Region.ready md ops l = rs) (hne : rs ≠ []) (h : AllL P md ops Q S T b f l a w rs) : AnyL P md ops Q S T b (f + 1) l a w :=
  ⟨fun h0 => absurd (hr ▸ h0) hne, hr ▸ h⟩
/-! The moves, with the two conditions apart. -/
theorem both_of {l : Array Bool} {w : World} (h : S w ∧ T w) : Both S T b l w := ⟨h.1, .inr h.2⟩
theorem AnyL.tS {i d : Nat} {oi : Oper} {v : Value} {f : Nat} {l : Array Bool} {a : Act} {w : World} (hi : ops[i]? = Option.some oi) (hd : oi.dst = Option.some d) (hs : Region.noSelect ops = true) (hf : Region.free md ops l i = true) (hr : (Region.ready md ops l).contains i = true) (hib : i ≠ b)
    (hQ : ∀ c a w, Q (.panic c) (a.put oi.dst v) w → Q (.panic c) a w) (hw : Region.wanted oi (yielded ops a.tmps) = true) (hv : ∀ w, S w → (execOp a.eval oi).run P w = .ok (.value v) w) (hB : S w ∧ T w)
    (h : AnyL P md ops Q S T b f (l.setIfInBounds i true) (a.put (Option.some d) v) w) : AnyL P md ops Q S T b (f + 1) l a w :=
  AnyL.takeS hi hd hs hf hr hib hQ hw (both_of hB) hv h
theorem AnyL.tT {i d : Nat} {oi : Oper} {v : Value} {f : Nat} {l : Array Bool} {a : Act} {w : World} (hi : ops[i]? = Option.some oi) (hd : oi.dst = Option.some d) (hs : Region.noSelect ops = true) (hf : Region.free md ops l i = true) (hr : (Region.ready md ops l).contains i = true) (hib : i ≠ b)
    (hlb : l.getD b false = false) (hwb : waitsB md ops b i = true)
    (hQ : ∀ c a w, Q (.panic c) (a.put oi.dst v) w → Q (.panic c) a w) (hw : Region.wanted oi (yielded ops a.tmps) = true) (hv : ∀ w, T w → (execOp a.eval oi).run P w = .ok (.value v) w) (hB : S w ∧ T w)
    (h : AnyL P md ops Q S T b f (l.setIfInBounds i true) (a.put (Option.some d) v) w) : AnyL P md ops Q S T b (f + 1) l a w :=
  AnyL.takeT hi hd hs hf hr hib hlb hwb hQ hw (both_of hB) hv h
/-- an operation other than b, ahead of it -/
theorem AllL.consN {f : Nat} {l : Array Bool} {a : Act} {w : World} {i : Nat} {o : Oper} {rs : List Nat} (ho : ops[i]? = Option.some o)
    (h : ∀ K' : Act → World → Prop, Shut (∀ a w, (S w ∧ T w) → (S w ∧ T w → AnyL P md ops Q S T b f (l.setIfInBounds i true) a w) → K' a w) → if Region.wanted o (yielded ops a.tmps) = true then Oper.wp P o a w K' Q else K' (a.put o.dst undef) w)
    (hs : AllL P md ops Q S T b f l a w rs) : AllL P md ops Q S T b f l a w (i :: rs) :=
  AllL.cons ho (fun K' hK => h K' (fun a w hST hW => hK.out a w (both_of hST) (hW hST))) hs
/-- operation b, and what comes behind it -/
theorem AllL.consB {f : Nat} {l : Array Bool} {a : Act} {w : World} {i : Nat} {o : Oper} {rs : List Nat} (ho : ops[i]? = Option.some o) (hl : (l.setIfInBounds i true).getD b false = true)
    (h : ∀ K' : Act → World → Prop, Shut (∀ a w, S w → AnyL P md ops Q S T b f (l.setIfInBounds i true) a w → K' a w) → if Region.wanted o (yielded ops a.tmps) = true then Oper.wp P o a w K' Q else K' (a.put o.dst undef) w)
    (hs : AllL P md ops Q S T b f l a w rs) : AllL P md ops Q S T b f l a w (i :: rs) :=
  AllL.cons ho (fun K' hK => h K' (fun a w hS hW => hK.out a w ⟨hS, .inl hl⟩ hW)) hs
/-- taken behind b, in whatever world -/
theorem AnyL.tE {i d : Nat} {oi : Oper} {v : Value} {f : Nat} {l : Array Bool} {a : Act} {w : World} (hi : ops[i]? = Option.some oi) (hd : oi.dst = Option.some d) (hs : Region.noSelect ops = true) (hf : Region.free md ops l i = true) (hr : (Region.ready md ops l).contains i = true) (hib : i ≠ b) (hl : l.getD b false = true)
    (hQ : ∀ c a w, Q (.panic c) (a.put oi.dst v) w → Q (.panic c) a w) (hw : Region.wanted oi (yielded ops a.tmps) = true) (hv : ∀ w, S w → (execOp a.eval oi).run P w = .ok (.value v) w) (hB : S w)
    (h : AnyL P md ops Q S T b f (l.setIfInBounds i true) (a.put (Option.some d) v) w) : AnyL P md ops Q S T b (f + 1) l a w :=
  AnyL.takeS hi hd hs hf hr hib hQ hw ⟨hB, .inl hl⟩ hv h
end
end Go.Proofs.YtkpocljlmbihcaaDoor
