/- CountTokens: what it answers, its contracts, program and model; what the laws do with lists of tokens and of counts. -/
import Derived.Test.YtnenfpbiobmlcaaDoorTkt3
import Derived.Test.YtnenfpbiobmlcaaDoorIni
import Derived.Deep.OwnRows
namespace Go.Proofs.YtnenfpbiobmlcaaDoor
set_option maxRecDepth 100000
open Go.RowKit
set_option linter.unusedVariables false

theorem lsG_len6 {l : List Tok} (h : lsG l = true) : l.length ≤ 600 := by
  unfold lsG at h
  have := (Bool.and_eq_true_iff.1 h).2
  simpa using this
/-- how many tokens of a kind -/
def cK (l : List Tok) (i : Int) : Nat := (l.filter (fun x => x.k == i)).length
theorem cK_le (l : List Tok) (i : Int) : cK l i ≤ l.length := List.length_filter_le _ _
theorem cK_more (l : List Tok) (k : Nat) (h : k < l.length) (x : Tok) (hx : l.getD k tok0 = x) (i : Int) : cK (l.take (k + 1)) i = cK (l.take k) i + (if x.k = i then 1 else 0) := by
  have hl : l[k] = x := by rw [← hx]; simp [List.getD_eq_getElem?_getD, h]
  unfold cK
  rw [List.take_succ_eq_append_getElem h, List.filter_append, hl, List.length_append]
  by_cases hi : x.k = i
  · simp [hi]
  · simp [hi]
def cntL (l : List Tok) : List Int := [(cK l 1 : Int), (cK l 2 : Int), (cK l 3 : Int), (cK l 4 : Int)]
theorem tkKi_in {t : ByteArray} (h : tkFa t = 0) : tkKi t = 1 ∨ tkKi t = 2 ∨ tkKi t = 3 ∨ tkKi t = 4 := by
  rcases Nat.eq_zero_or_pos t.size with hz | hz
  · rw [tk_nil t hz] at h; cases h
  · rcases tk_way t hz with ⟨v, d, r, e, k, x⟩ | ⟨d, r, e⟩ | ⟨d, l, e, k, x⟩ | ⟨d, l, q, e⟩ | ⟨d, l, q, i, e, k, x⟩ | ⟨d, l, q, i, e, k, x⟩
    · exact .inr (.inr (.inl k))
    · rw [e] at h; cases h
    · exact .inr (.inr (.inr k))
    · rw [e] at h; cases h
    · exact .inl k
    · exact .inr (.inl k)
theorem good_kind {k a v : Int} {s : ByteArray} (h : goodT k a s v = true) : k = 1 ∨ k = 2 ∨ k = 3 ∨ k = 4 := by
  unfold goodT at h
  simp only [Bool.and_eq_true, decide_eq_true_eq, beq_iff_eq] at h
  rw [← h.2.2.1]
  exact tkKi_in h.2.1
theorem alG_kind : ∀ (l : List Tok), alG l = true → ∀ k, k < l.length → (l.getD k tok0).k = 1 ∨ (l.getD k tok0).k = 2 ∨ (l.getD k tok0).k = 3 ∨ (l.getD k tok0).k = 4
  | [], _, k, hk => absurd hk (by simp)
  | x :: r, h, k, hk => by
    unfold alG at h
    rw [Bool.and_eq_true] at h
    match k, hk with
    | 0, _ => exact good_kind h.1
    | k + 1, hk => exact alG_kind r h.2 k (by simpa using hk)
theorem lsG_kind {l : List Tok} (h : lsG l = true) : ∀ k, k < l.length → (l.getD k tok0).k = 1 ∨ (l.getD k tok0).k = 2 ∨ (l.getD k tok0).k = 3 ∨ (l.getD k tok0).k = 4 := by
  unfold lsG at h
  exact alG_kind l (Bool.and_eq_true_iff.1 h).1
/-- four counts of the call's own -/
def SaysC (w : World) (l : List Tok) (e : Ending) (w' : World) : Prop := e = .returned (.tuple #[.slice none 0 0, .bool false]) ∧ lsG l = false ∧ Below w.heap.size w w' ∨
  lsG l = true ∧ ∃ g, e = .returned (.tuple #[.slice (some ⟨g, 0, none⟩) 4 4, .bool true]) ∧ OwnI w' w.heap.size g 4 4 (cntL l) ∧ Below w.heap.size w w'
def CtRel (W0 : World) (l : List Tok) (n gt : Nat) (i : Value) (wr : World) : Prop := ∃ k : Nat, k ≤ n ∧ i = .int .i64 k ∧ OwnI wr gt gt 4 4 (cntL (l.take k)) ∧ Below gt W0 wr
theorem OwnI.walk {w : World} {g n : Nat} {zs : List Int} (h : OwnI w g g n n zs) (k : Nat) (hk : k < n) (c : Int) (hc : zs.getD k 0 = c) :
    (∀ o, (w.alloc o).cell? ⟨g, k, none⟩ = some (.int .i64 c)) ∧ (∀ o, (w.alloc o).frozen? ⟨g, k, none⟩ = false) :=
  ⟨fun o => by rw [OwnI.cell (World.ownsRow.alloc (w := w) h o : OwnI (w.alloc o) g g n n zs) k hk, hc], fun o => World.ownsRow.frozenAt (World.ownsRow.alloc (w := w) h o) k⟩
theorem ct_round {W0 wr : World} {zs ys : List Int} {gt j : Nat} {c : Int} {T : TypeId} {cs : Array Value} (ho : OwnI wr gt gt 4 4 zs) (hb : Below gt W0 wr) (hs : zs.set j c = ys) :
    OwnI ((wr.setCell ⟨gt, j, none⟩ (.int .i64 c)).alloc (.cells cs T)) gt gt 4 4 ys ∧ Below gt W0 ((wr.setCell ⟨gt, j, none⟩ (.int .i64 c)).alloc (.cells cs T)) := by
  have hlt := ho.lt.2
  have h2 := ho.store j c
  rw [hs] at h2
  have b2 := hb.setCell (p := ⟨gt, j, none⟩) (Nat.le_refl gt) (.int .i64 c)
  exact ⟨World.ownsRow.alloc h2 _, b2.alloc (by simp; omega) _⟩
theorem ct_start (l : List Tok) (w1 : World) :
    OwnI (w1.alloc (.cells (madeCells #[.int .i64 0] 4) 3)) w1.heap.size w1.heap.size 4 4 (cntL (l.take 0)) ∧ Below w1.heap.size w1 (w1.alloc (.cells (madeCells #[.int .i64 0] 4) 3)) := by
  refine ⟨?_, one_new2 w1 _⟩
  have h := World.ownsRow_lit (base := w1.heap.size) (e := 3) (size := 1) w1 (madeCells #[.int .i64 0] 4) 4 (Nat.le_refl _) (by unfold maxLen; omega) (by rw [← Array.length_toList, toList_madeCells_one]; simp)
  rw [toList_madeCells_one] at h
  exact h
set_option maxHeartbeats 6400000 in
theorem implCount_good (ad : Option Addr) (n c : Nat) (l : List Tok) (w : World) (HT : Hid (Tabs w)) (h : Hid (SlT w (.slice ad n c) l)) (HD : Hid (0 < n → ∃ g, ad = some ⟨g, 0, none⟩ ∧ ToksAt w g l ∧ g < w.heap.size)) (HZ : Hid (SzT l)) (hn : Hid (l.length = n)) (hm : n ≤ 600) (hls : Hid (lsG l = true)) :
    Calls Tryd.prog 32 #[.slice ad n c] w (SaysC w l) := by
  have HA := Lib.hid (areTokens_any (.slice ad n c) l w HT h HZ)
  rw [hls.out] at HA
  have HK := Lib.hid (lsG_kind hls.out)
  have hmk := run_make_row' (P := Tryd.prog) 48 3 (.int .i64 0) 8 Tryd.underlying48 infoI rfl .i64 .i64 4 (by omega) (by omega)
  rw [show ((4 : Nat) : Int) = 4 from rfl] at hmk
  go_enter Tryd.func32, Tryd.ntmps32
  go_wp2_with (go_at_call 56; refine (HA.out).mono ?_; rintro e w1 ⟨rfl, b1⟩; have B1 := Lib.hid b1; clear b1)
  have HST := Lib.hid (ct_start l w1)
  go_loopw [13] (fun i wr => CtRel w1 l n w1.heap.size i wr) (fun i _ => n - (intOf i).toNat)
  case atStart => exact ⟨0, Nat.zero_le _, rfl, HST.out.1, HST.out.2⟩
  case round =>
    obtain ⟨k, hk, rfl, ho, hb⟩ := hrel
    have HO := Lib.hid ho
    have HB := Lib.hid hb
    by_cases hlt : k < n
    · obtain ⟨g, rfl, ht, hg⟩ := HD.out (by omega)
      obtain ⟨x, hx⟩ : ∃ x, l.getD k tok0 = x := ⟨_, rfl⟩
      have hl1 : k < l.length := by rw [hn.out]; exact hlt
      have hg1 := Nat.lt_of_lt_of_le hg B1.out.size
      obtain ⟨a0, a1, a2, a3⟩ := ((ht.below B1.out hg).below hb hg1).four k hl1 x hx
      have hkd := HK.out k hl1
      rw [hx] at hkd
      have HX := Lib.hid (fun i => cK_more l k hl1 x hx i)
      have hle := fun i => Nat.le_trans (cK_le (l.take k) i) (by rw [List.length_take]; omega : (l.take k).length ≤ 600)
      obtain ⟨c1, hc1⟩ : ∃ c1, cK (l.take k) 1 = c1 := ⟨_, rfl⟩
      obtain ⟨c2, hc2⟩ : ∃ c2, cK (l.take k) 2 = c2 := ⟨_, rfl⟩
      obtain ⟨c3, hc3⟩ : ∃ c3, cK (l.take k) 3 = c3 := ⟨_, rfl⟩
      obtain ⟨c4, hc4⟩ : ∃ c4, cK (l.take k) 4 = c4 := ⟨_, rfl⟩
      have h1 := hle 1
      have h2 := hle 2
      have h3 := hle 3
      have h4 := hle 4
      rw [hc1] at h1
      rw [hc2] at h2
      rw [hc3] at h3
      rw [hc4] at h4
      have e : cntL (l.take k) = [(c1 : Int), (c2 : Int), (c3 : Int), (c4 : Int)] := by unfold cntL; rw [hc1, hc2, hc3, hc4]
      have e1 : cntL (l.take (k + 1)) = [((c1 + (if x.k = 1 then 1 else 0) : Nat) : Int), ((c2 + (if x.k = 2 then 1 else 0) : Nat) : Int), ((c3 + (if x.k = 3 then 1 else 0) : Nat) : Int), ((c4 + (if x.k = 4 then 1 else 0) : Nat) : Int)] := by
        unfold cntL; rw [HX.out, HX.out, HX.out, HX.out, hc1, hc2, hc3, hc4]
      have E1 := Lib.hid e1
      rw [e] at ho HO
      have hgt := ho.lt.2
      obtain ⟨xk, xa, xt, xv⟩ := x
      clear hb hx hl1 e e1 HX hle hc1 hc2 hc3 hc4
      rcases hkd with hkd | hkd | hkd | hkd
      all_goals
        have hkd2 : xk = _ := hkd
        clear hkd
        subst hkd2
      · obtain ⟨s0, s1⟩ := ho.walk 0 (by decide) _ rfl
        clear ho
        go_wp2_with fail
        go_roundw
        case rel =>
          have q := ct_round (j := 0) (c := (c1 : Int) + 1) (ys := cntL (l.take (k + 1))) (T := 24) (cs := #[.int .i64 1, .int .i64 xa, .string xt, .int .i64 xv]) HO.out HB.out (by rw [E1.out]; simp)
          exact ⟨k + 1, by omega, by go_num, q.1, q.2⟩
        case measure => simp [intOf]; omega
      · obtain ⟨s0, s1⟩ := ho.walk 1 (by decide) _ rfl
        clear ho
        go_wp2_with fail
        go_roundw
        case rel =>
          have q := ct_round (j := 1) (c := (c2 : Int) + 1) (ys := cntL (l.take (k + 1))) (T := 24) (cs := #[.int .i64 2, .int .i64 xa, .string xt, .int .i64 xv]) HO.out HB.out (by rw [E1.out]; simp)
          exact ⟨k + 1, by omega, by go_num, q.1, q.2⟩
        case measure => simp [intOf]; omega
      · obtain ⟨s0, s1⟩ := ho.walk 2 (by decide) _ rfl
        clear ho
        go_wp2_with fail
        go_roundw
        case rel =>
          have q := ct_round (j := 2) (c := (c3 : Int) + 1) (ys := cntL (l.take (k + 1))) (T := 24) (cs := #[.int .i64 3, .int .i64 xa, .string xt, .int .i64 xv]) HO.out HB.out (by rw [E1.out]; simp)
          exact ⟨k + 1, by omega, by go_num, q.1, q.2⟩
        case measure => simp [intOf]; omega
      · obtain ⟨s0, s1⟩ := ho.walk 3 (by decide) _ rfl
        clear ho
        go_wp2_with fail
        go_roundw
        case rel =>
          have q := ct_round (j := 3) (c := (c4 : Int) + 1) (ys := cntL (l.take (k + 1))) (T := 24) (cs := #[.int .i64 4, .int .i64 xa, .string xt, .int .i64 xv]) HO.out HB.out (by rw [E1.out]; simp)
          exact ⟨k + 1, by omega, by go_num, q.1, q.2⟩
        case measure => simp [intOf]; omega
    · have hkn : k = n := by omega
      subst hkn
      have HF : Hid (OwnI wr w.heap.size w1.heap.size 4 4 (cntL l)) := Lib.hid (by
        have q := ho
        rw [List.take_of_length_le (by rw [hn.out]; exact Nat.le_refl _)] at q
        exact q.base B1.out.size)
      have HB1 := Lib.hid (B1.out.trans (hb.mono B1.out.size))
      clear ho hb
      go_wp2_with fail
      go_ret2
      exact .inr ⟨hls.out, w1.heap.size, rfl, HF.out, HB1.out⟩
theorem implCount_bad (v : Value) (l : List Tok) (w : World) (HT : Hid (Tabs w)) (h : Hid (SlT w v l)) (HZ : Hid (SzT l)) (hls : Hid (lsG l = false)) :
    Calls Tryd.prog 32 #[v] w (SaysC w l) := by
  have HA := Lib.hid (areTokens_any v l w HT h HZ)
  rw [hls.out] at HA
  go_enter Tryd.func32, Tryd.ntmps32
  go_wp2_with (go_at_call 56; refine (HA.out).mono ?_; rintro e w1 ⟨rfl, b1⟩; have B1 := Lib.hid b1; clear b1)
  go_ret2
  exact .inl ⟨rfl, hls.out, B1.out⟩
theorem implCount_any (v : Value) (l : List Tok) (w : World) (HT : Hid (Tabs w)) (h : Hid (SlT w v l)) (HZ : Hid (SzT l)) :
    Calls Tryd.prog 32 #[v] w (SaysC w l) := by
  rcases Bool.eq_false_or_eq_true (lsG l) with hls | hls
  · have hm := lsG_len6 hls
    rcases h.out with ⟨hl, ad, c, hv⟩ | ⟨g, c, hv, ht, hg⟩
    · subst hv
      exact implCount_good ad 0 c l w HT h (Lib.hid (fun q => absurd q (by omega))) HZ (Lib.hid (by rw [hl]; rfl)) (by omega) hls
    · subst hv
      exact implCount_good (some ⟨g, 0, none⟩) l.length c l w HT h (Lib.hid (fun _ => ⟨g, rfl, ht, hg⟩)) HZ rfl hm hls
  · exact implCount_bad v l w HT h HZ hls
set_option maxHeartbeats 6400000 in
theorem specCount_good (ad : Option Addr) (n c : Nat) (l : List Tok) (w : World) (h : Hid (SlT w (.slice ad n c) l)) (HD : Hid (0 < n → ∃ g, ad = some ⟨g, 0, none⟩ ∧ ToksAt w g l ∧ g < w.heap.size)) (HZ : Hid (SzT l)) (hn : Hid (l.length = n)) (hm : n ≤ 600) (hls : Hid (lsG l = true)) :
    Calls Tryd.prog 31 #[.slice ad n c] w (SaysC w l) := by
  have HA := Lib.hid (tkList_any (.slice ad n c) l w h HZ (by rw [hn.out]; omega))
  rw [hls.out] at HA
  have HK := Lib.hid (lsG_kind hls.out)
  have hmk := run_make_row' (P := Tryd.prog) 48 3 (.int .i64 0) 8 Tryd.underlying48 infoI rfl .i64 .i64 4 (by omega) (by omega)
  rw [show ((4 : Nat) : Int) = 4 from rfl] at hmk
  go_enter Tryd.func31, Tryd.ntmps31
  go_wp2_with (go_at_call 54; refine (HA.out).mono ?_; rintro e w1 ⟨rfl, b1⟩; have B1 := Lib.hid b1; clear b1)
  have HST := Lib.hid (ct_start l w1)
  go_loopw [13] (fun i wr => CtRel w1 l n w1.heap.size i wr) (fun i _ => n - (intOf i).toNat)
  case atStart => exact ⟨0, Nat.zero_le _, rfl, HST.out.1, HST.out.2⟩
  case round =>
    obtain ⟨k, hk, rfl, ho, hb⟩ := hrel
    have HO := Lib.hid ho
    have HB := Lib.hid hb
    by_cases hlt : k < n
    · obtain ⟨g, rfl, ht, hg⟩ := HD.out (by omega)
      obtain ⟨x, hx⟩ : ∃ x, l.getD k tok0 = x := ⟨_, rfl⟩
      have hl1 : k < l.length := by rw [hn.out]; exact hlt
      have hg1 := Nat.lt_of_lt_of_le hg B1.out.size
      obtain ⟨a0, a1, a2, a3⟩ := ((ht.below B1.out hg).below hb hg1).four k hl1 x hx
      have hkd := HK.out k hl1
      rw [hx] at hkd
      have HX := Lib.hid (fun i => cK_more l k hl1 x hx i)
      have hle := fun i => Nat.le_trans (cK_le (l.take k) i) (by rw [List.length_take]; omega : (l.take k).length ≤ 600)
      obtain ⟨c1, hc1⟩ : ∃ c1, cK (l.take k) 1 = c1 := ⟨_, rfl⟩
      obtain ⟨c2, hc2⟩ : ∃ c2, cK (l.take k) 2 = c2 := ⟨_, rfl⟩
      obtain ⟨c3, hc3⟩ : ∃ c3, cK (l.take k) 3 = c3 := ⟨_, rfl⟩
      obtain ⟨c4, hc4⟩ : ∃ c4, cK (l.take k) 4 = c4 := ⟨_, rfl⟩
      have h1 := hle 1
      have h2 := hle 2
      have h3 := hle 3
      have h4 := hle 4
      rw [hc1] at h1
      rw [hc2] at h2
      rw [hc3] at h3
      rw [hc4] at h4
      have e : cntL (l.take k) = [(c1 : Int), (c2 : Int), (c3 : Int), (c4 : Int)] := by unfold cntL; rw [hc1, hc2, hc3, hc4]
      have e1 : cntL (l.take (k + 1)) = [((c1 + (if x.k = 1 then 1 else 0) : Nat) : Int), ((c2 + (if x.k = 2 then 1 else 0) : Nat) : Int), ((c3 + (if x.k = 3 then 1 else 0) : Nat) : Int), ((c4 + (if x.k = 4 then 1 else 0) : Nat) : Int)] := by
        unfold cntL; rw [HX.out, HX.out, HX.out, HX.out, hc1, hc2, hc3, hc4]
      have E1 := Lib.hid e1
      rw [e] at ho HO
      have hgt := ho.lt.2
      obtain ⟨xk, xa, xt, xv⟩ := x
      clear hb hx hl1 e e1 HX hle hc1 hc2 hc3 hc4
      rcases hkd with hkd | hkd | hkd | hkd
      all_goals
        have hkd2 : xk = _ := hkd
        clear hkd
        subst hkd2
      · obtain ⟨s0, s1⟩ := ho.walk 0 (by decide) _ rfl
        clear ho
        go_wp2_with fail
        go_roundw
        case rel =>
          have q := ct_round (j := 0) (c := (c1 : Int) + 1) (ys := cntL (l.take (k + 1))) (T := 24) (cs := #[.int .i64 1, .int .i64 xa, .string xt, .int .i64 xv]) HO.out HB.out (by rw [E1.out]; simp)
          exact ⟨k + 1, by omega, by go_num, q.1, q.2⟩
        case measure => simp [intOf]; omega
      · obtain ⟨s0, s1⟩ := ho.walk 1 (by decide) _ rfl
        clear ho
        go_wp2_with fail
        go_roundw
        case rel =>
          have q := ct_round (j := 1) (c := (c2 : Int) + 1) (ys := cntL (l.take (k + 1))) (T := 24) (cs := #[.int .i64 2, .int .i64 xa, .string xt, .int .i64 xv]) HO.out HB.out (by rw [E1.out]; simp)
          exact ⟨k + 1, by omega, by go_num, q.1, q.2⟩
        case measure => simp [intOf]; omega
      · obtain ⟨s0, s1⟩ := ho.walk 2 (by decide) _ rfl
        clear ho
        go_wp2_with fail
        go_roundw
        case rel =>
          have q := ct_round (j := 2) (c := (c3 : Int) + 1) (ys := cntL (l.take (k + 1))) (T := 24) (cs := #[.int .i64 3, .int .i64 xa, .string xt, .int .i64 xv]) HO.out HB.out (by rw [E1.out]; simp)
          exact ⟨k + 1, by omega, by go_num, q.1, q.2⟩
        case measure => simp [intOf]; omega
      · obtain ⟨s0, s1⟩ := ho.walk 3 (by decide) _ rfl
        clear ho
        go_wp2_with fail
        go_roundw
        case rel =>
          have q := ct_round (j := 3) (c := (c4 : Int) + 1) (ys := cntL (l.take (k + 1))) (T := 24) (cs := #[.int .i64 4, .int .i64 xa, .string xt, .int .i64 xv]) HO.out HB.out (by rw [E1.out]; simp)
          exact ⟨k + 1, by omega, by go_num, q.1, q.2⟩
        case measure => simp [intOf]; omega
    · have hkn : k = n := by omega
      subst hkn
      have HF : Hid (OwnI wr w.heap.size w1.heap.size 4 4 (cntL l)) := Lib.hid (by
        have q := ho
        rw [List.take_of_length_le (by rw [hn.out]; exact Nat.le_refl _)] at q
        exact q.base B1.out.size)
      have HB1 := Lib.hid (B1.out.trans (hb.mono B1.out.size))
      clear ho hb
      go_wp2_with fail
      go_ret2
      exact .inr ⟨hls.out, w1.heap.size, rfl, HF.out, HB1.out⟩
theorem specCount_bad (v : Value) (l : List Tok) (w : World) (h : Hid (SlT w v l)) (HZ : Hid (SzT l)) (hm : l.length ≤ 1048576) (hls : Hid (lsG l = false)) :
    Calls Tryd.prog 31 #[v] w (SaysC w l) := by
  have HA := Lib.hid (tkList_any v l w h HZ hm)
  rw [hls.out] at HA
  go_enter Tryd.func31, Tryd.ntmps31
  go_wp2_with (go_at_call 54; refine (HA.out).mono ?_; rintro e w1 ⟨rfl, b1⟩; have B1 := Lib.hid b1; clear b1)
  go_ret2
  exact .inl ⟨rfl, hls.out, B1.out⟩
theorem specCount_any (v : Value) (l : List Tok) (w : World) (h : Hid (SlT w v l)) (HZ : Hid (SzT l)) (hm : l.length ≤ 1048576) :
    Calls Tryd.prog 31 #[v] w (SaysC w l) := by
  rcases Bool.eq_false_or_eq_true (lsG l) with hls | hls
  · have hm6 := lsG_len6 hls
    rcases h.out with ⟨hl, ad, c, hv⟩ | ⟨g, c, hv, ht, hg⟩
    · subst hv
      exact specCount_good ad 0 c l w h (Lib.hid (fun q => absurd q (by omega))) HZ (Lib.hid (by rw [hl]; rfl)) (by omega) hls
    · subst hv
      exact specCount_good (some ⟨g, 0, none⟩) l.length c l w h (Lib.hid (fun _ => ⟨g, rfl, ht, hg⟩)) HZ rfl hm6 hls
  · exact specCount_bad v l w h HZ hm hls

def MtRelB (w : World) (R : ByteArray) (i o : Value) (wr : World) : Prop := ∃ (f : Nat) (k : Int) (t : ByteArray), 0 ≤ k ∧ k.toNat ≤ f ∧ i = .int .i64 k ∧ o = .string t ∧ t.size + k ≤ 9000000 ∧ Hid (mtF f k.toNat t = R) ∧ Below w.heap.size w wr
set_option maxHeartbeats 1600000 in
theorem markText_big (K : Int) (h1 : 1 ≤ K) (h9 : K ≤ 9000000) (w : World) :
    Calls Tryd.prog 52 #[.int .i64 K] w (SaysT w (mtS K.toNat)) := by
  obtain ⟨R, hR⟩ : ∃ R, mtF K.toNat K.toNat ⟨#[]⟩ = R := ⟨_, rfl⟩
  have H0 := Lib.hid hR
  have hS : mtS K.toNat = (⟨#[109]⟩ : ByteArray) ++ R := by unfold mtS; rw [hR]
  rw [hS]
  clear hR hS
  have d0 := not_le (show (0 : Int) < K by omega)
  go_enter Tryd.func52, Tryd.ntmps52
  go_wp2_with fail
  go_loopw [0, 3] (fun i o wr => MtRelB w R i o wr) (fun i _ _ => (intOf i).toNat)
  case atStart => exact ⟨K.toNat, K, ⟨#[]⟩, by omega, Nat.le_refl _, rfl, rfl, (by show ((0 : Nat) : Int) + K ≤ 9000000; omega), H0, Below.refl _ _⟩
  case round =>
    obtain ⟨f, k, t, k0, hf, rfl, rfl, ht, HG, hb⟩ := hrel
    have HB := Lib.hid hb
    clear hb
    have hts : t.size ≤ 9000000 := by omega
    rcases Int.lt_or_eq_of_le k0 with hk | hk
    · obtain ⟨f', rfl⟩ : ∃ f', f = f' + 1 := ⟨f - 1, by omega⟩
      have HX : Hid (mtF f' (k.toNat / 10) (strOfNums [48 + ((k.toNat % 10 : Nat) : Int)] ++ t) = R) := Lib.hid (by rw [← HG.out]; conv => rhs; rw [mtF, if_neg (show ¬ k.toNat = 0 by omega)])
      have q9 : k ≤ 9000000 := by omega
      have hd : ((k.toNat % 10 : Nat) : Int) = k % 10 := by omega
      have hd2 : k.toNat / 10 = (k / 10).toNat := by omega
      have hd0 : 0 ≤ k % 10 := by omega
      have hd9 : k % 10 ≤ 9 := by omega
      have hq0 : 0 ≤ k / 10 := by omega
      have hlt : k / 10 + 1 ≤ k := by omega
      rw [hd, hd2] at HX
      have dk := is_lt hk
      have cv := conv_any
      have hz := str_one (48 + k % 10)
      clear hd hd2
      go_wp2_with fail
      go_roundw
      case rel => exact ⟨f', k / 10, strOfNums [48 + k % 10] ++ t, hq0, by omega, rfl, rfl, by rw [ByteArray.size_append, hz]; omega, HX, HB.out.alloc HB.out.size _⟩
      case measure => simp [intOf]; omega
    · have HX : Hid (t = R) := Lib.hid (by rw [← HG.out, ← hk]; cases f <;> simp [mtF])
      subst hk
      go_wp2_with fail
      go_ret
      exact ⟨ret_str (by rw [HX.out]), HB.out⟩
def MarkRelB (w : World) (g n cap : Nat) (l : List Tok) (m i : Value) (wr : World) : Prop :=
  ∃ (k : Nat) (q : Int), k ≤ n ∧ i = .int .i64 k ∧ m = .int .i64 q ∧ Hid (q = 4 * (k : Int) + 1) ∧ 1 ≤ q ∧ q ≤ 4194305 ∧ OwnK wr g (.slice (some ⟨g, 0, none⟩) n cap) n (markToT l k) ∧ OnlyGrown g w wr
set_option maxHeartbeats 3200000 in
theorem markTokenS_big (g n cap : Nat) (l : List Tok) (w : World) (HO : Hid (OwnK w g (.slice (some ⟨g, 0, none⟩) n cap) n l)) (hm : n ≤ 1048576) :
    Calls Tryd.prog 21 #[.slice (some ⟨g, 0, none⟩) n cap, .int .i64 1] w fun e w' => e = .returned (.int .i64 (4 * (n : Int) + 1)) ∧ OwnK w' g (.slice (some ⟨g, 0, none⟩) n cap) n (marksT n) ∧ OnlyGrown g w w' := by
  have HL := Lib.hid HO.out.len
  go_enter Tryd.func21, Tryd.ntmps21
  go_wp2_with fail
  go_loopw [1, 5] (fun m i wr => MarkRelB w g n cap l m i wr) (fun _ i _ => n - (intOf i).toNat)
  case atStart => exact ⟨0, 1, Nat.zero_le _, rfl, rfl, Lib.hid (by omega), by omega, by omega, by rw [markToT_zero]; exact HO.out, OnlyGrown.refl _ _⟩
  case round =>
    obtain ⟨k, m, hk, rfl, rfl, HM, m1, m2, ho, hb⟩ := hrel
    have HO1 := Lib.hid ho
    have HB1 := Lib.hid hb
    have HT := Lib.hid ho.toks
    have HLen : Hid ((markToT l k).length = n) := Lib.hid ho.len
    by_cases hlt : k < n
    · have m3 : m ≤ 4194301 := by have := HM.out; omega
      obtain ⟨x, hx⟩ : ∃ x, (markToT l k).getD k tok0 = x := ⟨_, rfl⟩
      obtain ⟨a0, a1, a2, a3⟩ := HT.out.four k (by rw [HLen.out]; exact hlt) x hx
      have f0 := World.ownsRow.frozenAt ho (k * 4)
      have f1 := World.ownsRow.frozenAt ho (k * 4 + 1)
      have HX := Lib.hid hx
      clear ho hb hx
      go_wp2_with (go_at_call 52; refine (markText_big (m + 1 + 1) (by omega) (by omega) _).mono ?_; rintro e w1 ⟨rfl, b1⟩; have B1 := Lib.hid b1; obtain ⟨c2, c3, e2, e3, raw⟩ := mark_mid HO1.out hlt x HX.out b1; have RAW := Lib.hid raw; clear b1 raw)
      have hd := Lib.hid (mark_done HO1.out (by have := HL.out; omega) HM.out RAW.out HB1.out B1.out)
      go_roundw
      case rel => exact ⟨k + 1, m + 1 + 1 + 1 + 1, by omega, by go_num, rfl, Lib.hid (by have := HM.out; omega), by omega, by omega, hd.out.1, hd.out.2⟩
      case measure => simp [intOf]; omega
    · clear ho hb
      go_wp2_with fail
      go_ret
      obtain rfl : k = n := by omega
      have e2 : markToT l k = marksT k := by have := markToT_all l; rw [HL.out] at this; exact this
      have := HO1.out
      rw [e2] at this
      exact ⟨ret_int HM.out, this, HB1.out⟩
/-- only a list of the call's own was written -/
theorem OnlyGrown.ofSame (g : Nat) (w : World) : OnlyGrown g w w := OnlyGrown.refl g w
theorem markTokenS_list (v : Value) (B n : Nat) (l : List Tok) (w : World) (HO : Hid (OwnK w B v n l)) (hm : n ≤ 1048576) :
    Calls Tryd.prog 21 #[v, .int .i64 1] w fun e w' => e = .returned (.int .i64 (4 * (n : Int) + 1)) ∧ (w = w' ∨ ∃ g c, v = .slice (some ⟨g, 0, none⟩) n c ∧ B ≤ g ∧ OnlyGrown g w w') := by
  rcases Nat.eq_zero_or_pos n with hn | hn
  · subst hn
    obtain ⟨hl, ad, c, hv⟩ : l = [] ∧ ∃ ad c, v = .slice ad 0 c := by
      rcases HO.out.slt with h | ⟨g, c, hv, _⟩
      · exact h
      · have := HO.out.len
        have hl : l = [] := List.eq_nil_of_length_eq_zero this
        subst hl
        exact ⟨rfl, _, _, hv⟩
    rw [hv]
    exact (markTokenS_none ad c w).mono fun e w' ⟨he, hw⟩ => ⟨by rw [he]; rfl, .inl hw⟩
  · obtain ⟨g, cap, hv⟩ := HO.out.form hn
    have ho := HO.out
    rw [hv] at ho ⊢
    have hg := World.ownsRow.lt ho g rfl
    have ho' : OwnK w g (.slice (some ⟨g, 0, none⟩) n cap) n l := by
      obtain ⟨h1, h2⟩ := ho
      refine ⟨h1, ?_⟩
      rcases h2 with h2 | ⟨g', cap', cur, a, b, c, d⟩
      · exact .inl h2
      · cases a
        exact .inr ⟨g, cap, cur, rfl, Nat.le_refl _, c, d⟩
    exact (markTokenS_big g n cap l w ho' hm).mono fun e w' ⟨he, hk, hO⟩ => ⟨he, .inr ⟨g, cap, rfl, hg.1, hO⟩⟩
/-- a list of the call's own was marked: what lies elsewhere is as it was -/
def Sp (B C : Nat) (w w' : World) : Prop := Below B w w' ∧ ∀ j, C ≤ j → j < w.heap.size → w'.heap[j]? = w.heap[j]?
theorem OwnI.block {w w' : World} {B g n cap : Nat} {zs : List Int} (h : OwnI w B g n cap zs) (hb : w'.heap[g]? = w.heap[g]?) : OwnI w' B g n cap zs := by
  obtain ⟨h1, h2⟩ := h
  refine ⟨h1, ?_⟩
  rcases h2 with h2 | ⟨g', cap', cur, a, b, c, d⟩
  · exact .inl h2
  · cases a
    exact .inr ⟨g, cap, cur, rfl, b, by rw [hb]; exact c, d⟩
theorem markTokenS_spare (v : Value) (B C n : Nat) (l : List Tok) (w : World) (HO : Hid (OwnK w B v n l)) (HC : Hid (∀ g c, v = .slice (some ⟨g, 0, none⟩) n c → g < C)) (hm : n ≤ 1048576) :
    Calls Tryd.prog 21 #[v, .int .i64 1] w fun e w' => e = .returned (.int .i64 (4 * (n : Int) + 1)) ∧ Sp B C w w' := by
  refine (markTokenS_list v B n l w HO hm).mono fun e w' ⟨he, hw⟩ => ⟨he, ?_⟩
  rcases hw with rfl | ⟨g, c, hv, hB, hO⟩
  · exact ⟨Below.refl _ _, fun _ _ _ => rfl⟩
  · exact ⟨hO.1.mono hB, fun j hj hl => hO.2 j (by have := HC.out g c hv; omega) hl⟩
theorem OwnK.lt_of {w : World} {B n : Nat} {v : Value} {l : List Tok} (h : OwnK w B v n l) : ∀ g c, v = .slice (some ⟨g, 0, none⟩) n c → g < w.heap.size := fun g c e => (World.ownsRow.lt h g (by rw [e]; rfl)).2
/-- four counts, or none -/
def SaysCg (w : World) (l : List Tok) (e : Ending) (w' : World) : Prop := ∃ g, e = .returned (.tuple #[.slice (some ⟨g, 0, none⟩) 4 4, .bool true]) ∧ OwnI w' w.heap.size g 4 4 (cntL l) ∧ Below w.heap.size w w'
def SaysCb (w : World) (e : Ending) (w' : World) : Prop := e = .returned (.tuple #[.slice none 0 0, .bool false]) ∧ Below w.heap.size w w'
theorem SaysC.good {w : World} {l : List Tok} {e : Ending} {w' : World} (h : SaysC w l e w') (hl : lsG l = true) : SaysCg w l e w' := by
  rcases h with ⟨_, hf, _⟩ | ⟨_, h⟩
  · rw [hl] at hf; cases hf
  · exact h
theorem SaysC.bad {w : World} {l : List Tok} {e : Ending} {w' : World} (h : SaysC w l e w') (hl : lsG l = false) : SaysCb w e w' := by
  rcases h with ⟨he, _, hb⟩ | ⟨hf, _⟩
  · exact ⟨he, hb⟩
  · rw [hl] at hf; cases hf
theorem cnt_range (l : List Tok) (h : lsG l = true) : ∀ n ∈ cntL l, -9223372036854775808 ≤ n ∧ n ≤ 9223372036854775807 := by
  have hl := lsG_len6 h
  have q := fun i => Nat.le_trans (cK_le l i) hl
  intro n hn
  have h1 := q 1
  have h2 := q 2
  have h3 := q 3
  have h4 := q 4
  unfold cntL at hn
  simp only [List.mem_cons, List.not_mem_nil, or_false] at hn
  rcases hn with rfl | rfl | rfl | rfl <;> omega
/-- four marks -/
def marks4 (w : World) (g : Nat) : World := (((w.setCell ⟨g, 0, none⟩ (.int .i64 1)).setCell ⟨g, 1, none⟩ (.int .i64 2)).setCell ⟨g, 2, none⟩ (.int .i64 3)).setCell ⟨g, 3, none⟩ (.int .i64 4)
theorem OwnI.marks {w : World} {B g : Nat} {zs : List Int} (h : OwnI w B g 4 4 zs) : OwnI (marks4 w g) B g 4 4 [1, 2, 3, 4] := by
  have hl := h.len
  match zs, hl with
  | [a, b, c, d], _ => exact (((h.store 0 1).store 1 2).store 2 3).store 3 4
theorem marks4_below (w : World) (g : Nat) : Below g w (marks4 w g) := set4' (Below.refl g w) g (Nat.le_refl g) _ _ _ _ _ _ _ _
set_option maxHeartbeats 3200000 in
theorem markIntS_four (B g : Nat) (zs : List Int) (w : World) (HO : Hid (OwnI w B g 4 4 zs)) :
    Calls Tryd.prog 34 #[.slice (some ⟨g, 0, none⟩) 4 4, .int .i64 1] w fun e w' => e = .returned (.int .i64 5) ∧ w' = marks4 w g := by
  have c0 := HO.out.cell 0 (by decide)
  have c1 := HO.out.cell 1 (by decide)
  have c2 := HO.out.cell 2 (by decide)
  have c3 := HO.out.cell 3 (by decide)
  have f0 := World.ownsRow.frozenAt HO.out 0
  have f1 := World.ownsRow.frozenAt HO.out 1
  have f2 := World.ownsRow.frozenAt HO.out 2
  have f3 := World.ownsRow.frozenAt HO.out 3
  go_enter Tryd.func34, Tryd.ntmps34
  go_wp2
  refine wp_loop_rounds 5 ?_
  rw [rounds_succ]
  go_wp2
  rw [rounds_succ]
  go_wp2
  rw [rounds_succ]
  go_wp2
  rw [rounds_succ]
  go_wp2
  rw [rounds_succ]
  go_wp2
  go_ret
  exact ⟨rfl, rfl⟩
theorem markIntS_none (a : Option Addr) (c : Nat) (w : World) :
    Calls Tryd.prog 34 #[.slice a 0 c, .int .i64 1] w fun e w' => e = .returned (.int .i64 1) ∧ w = w' := by
  go_enter Tryd.func34, Tryd.ntmps34
  go_wp2
  refine wp_loop_rounds 1 ?_
  rw [rounds_succ]
  go_wp2
  go_ret
  exact ⟨rfl, rfl⟩
set_option maxHeartbeats 3200000 in
theorem heldIntS_four (B g : Nat) (w : World) (HO : Hid (OwnI w B g 4 4 [1, 2, 3, 4])) :
    Calls Tryd.prog 35 #[.slice (some ⟨g, 0, none⟩) 4 4, .int .i64 1] w fun e w' => e = .returned (.int .i64 5) ∧ w = w' := by
  have c0 : w.cell? ⟨g, 0, none⟩ = some (.int .i64 1) := HO.out.cell 0 (by decide)
  have c1 : w.cell? ⟨g, 1, none⟩ = some (.int .i64 2) := HO.out.cell 1 (by decide)
  have c2 : w.cell? ⟨g, 2, none⟩ = some (.int .i64 3) := HO.out.cell 2 (by decide)
  have c3 : w.cell? ⟨g, 3, none⟩ = some (.int .i64 4) := HO.out.cell 3 (by decide)
  go_enter Tryd.func35, Tryd.ntmps35
  go_wp2
  refine wp_loop_rounds 5 ?_
  rw [rounds_succ]
  go_wp2
  rw [rounds_succ]
  go_wp2
  rw [rounds_succ]
  go_wp2
  rw [rounds_succ]
  go_wp2
  rw [rounds_succ]
  go_wp2
  go_ret
  exact ⟨rfl, rfl⟩
theorem heldIntS_none (a : Option Addr) (c : Nat) (w : World) :
    Calls Tryd.prog 35 #[.slice a 0 c, .int .i64 1] w fun e w' => e = .returned (.int .i64 1) ∧ w = w' := by
  go_enter Tryd.func35, Tryd.ntmps35
  go_wp2
  refine wp_loop_rounds 1 ?_
  rw [rounds_succ]
  go_wp2
  go_ret
  exact ⟨rfl, rfl⟩
theorem eqIntS_none (a b : Option Addr) (ca cb : Nat) (w : World) :
    Calls Tryd.prog 33 #[.slice a 0 ca, .slice b 0 cb] w (SaysDrawn w true) := by
  go_enter Tryd.func33, Tryd.ntmps33
  go_wp2
  refine wp_loop_rounds 1 ?_
  rw [rounds_succ]
  go_wp2
  go_ret
  exact ⟨rfl, 0, rfl⟩
end Go.Proofs.YtnenfpbiobmlcaaDoor
