/- JoinTokens: contracts, program and model. -/
import Derived.Test.YtdmcgjohpnojkaaDoorTkr
import Derived.Deep.OwnRows
namespace Go.Proofs.YtdmcgjohpnojkaaDoor
set_option maxRecDepth 100000
open Go.RowKit
set_option linter.unusedVariables false

/-- what JoinTokens answers -/
def jnO (l : List Tok) : Bool := lsG l && decide ((jS l l.length).size ≤ 4000)
def jnR (l : List Tok) : ByteArray := if jnO l then jS l l.length else ⟨#[]⟩
def SaysTB (w : World) (t : ByteArray) (b : Bool) (e : Ending) (w' : World) : Prop := e = .returned (.tuple #[.string t, .bool b]) ∧ Below w.heap.size w w'
inductive JnWay (l : List Tok) : Prop
  | bad (h : lsG l = false) (o : jnO l = false) (r : jnR l = ⟨#[]⟩)
  | long (h : lsG l = true) (z : (4000 : Int) < (jS l l.length).size) (o : jnO l = false) (r : jnR l = ⟨#[]⟩)
  | good (h : lsG l = true) (z : ((jS l l.length).size : Int) ≤ 4000) (o : jnO l = true) (r : jnR l = jS l l.length)
theorem jn_way (l : List Tok) : JnWay l := by
  rcases Bool.eq_false_or_eq_true (lsG l) with h | h
  · by_cases z : (jS l l.length).size ≤ 4000
    · have o : jnO l = true := by unfold jnO; rw [h, decide_eq_true z]; rfl
      exact .good h (by omega) o (by unfold jnR; rw [if_pos o])
    · have o : jnO l = false := by unfold jnO; rw [decide_eq_false z, Bool.and_false]
      exact .long h (by omega) o (by unfold jnR; rw [if_neg (by rw [o]; simp)])
  · have o : jnO l = false := by unfold jnO; rw [h]; rfl
    exact .bad h o (by unfold jnR; rw [if_neg (by rw [o]; simp)])
theorem lsG_len {l : List Tok} (h : lsG l = true) : l.length ≤ 600 := by
  unfold lsG at h
  have := (Bool.and_eq_true_iff.1 h).2
  simpa using this
set_option maxHeartbeats 1600000 in
theorem specJoin_any (v : Value) (l : List Tok) (w : World) (h : Hid (SlT w v l)) (HZ : Hid (SzT l)) (hm : l.length ≤ 1048576) :
    Calls Tryd.prog 47 #[v] w (SaysTB w (jnR l) (jnO l)) := by
  have HL := Lib.hid (tkList_any v l w h HZ hm)
  rcases jn_way l with ⟨hg, o, r⟩ | ⟨hg, z, o, r⟩ | ⟨hg, z, o, r⟩
  · rw [hg] at HL
    rw [o, r]
    clear hg o r
    go_enter Tryd.func47, Tryd.ntmps47
    go_wp2_with (go_at_call 86; refine (HL.out).mono ?_; rintro e w1 ⟨rfl, b1⟩; have B1 := Lib.hid b1; clear b1)
    go_ret2
    exact ⟨rfl, B1.out⟩
  · have HJ := Lib.hid (fun w h => tkJoin_any v l w h HZ (lsG_len hg))
    rw [hg] at HL
    rw [o, r]
    obtain ⟨J, hJ⟩ : ∃ J, jS l l.length = J := ⟨_, rfl⟩
    rw [hJ] at HJ z
    clear hg o r hJ
    go_enter Tryd.func47, Tryd.ntmps47
    go_wp2_with (first | (go_at_call 86; refine (HL.out).mono ?_; rintro e w1 ⟨rfl, b1⟩; have B1 := Lib.hid b1; have S1 := Lib.hid (h.out.below b1); clear b1) | (go_at_call 87; refine (HJ.out _ S1).mono ?_; rintro e w2 ⟨rfl, b2⟩; have B2 := Lib.hid b2; clear b2) | (go_at_call 36; refine (scBytes_false _ _ z).mono ?_; rintro e w' ⟨rfl, rfl⟩))
    go_ret2
    exact ⟨rfl, B1.out.trans (B2.out.mono B1.out.size)⟩
  · have HJ := Lib.hid (fun w h => tkJoin_any v l w h HZ (lsG_len hg))
    rw [hg] at HL
    rw [o, r]
    obtain ⟨J, hJ⟩ : ∃ J, jS l l.length = J := ⟨_, rfl⟩
    rw [hJ] at HJ z ⊢
    clear hg o r hJ
    go_enter Tryd.func47, Tryd.ntmps47
    go_wp2_with (go_at_call 86; refine (HL.out).mono ?_; rintro e w1 ⟨rfl, b1⟩; have B1 := Lib.hid b1; have S1 := Lib.hid (h.out.below b1); clear b1)
    go_wp2_with (first | (go_at_call 87; refine (HJ.out _ S1).mono ?_; rintro e w2 ⟨rfl, b2⟩; have B2 := Lib.hid b2; have S2 := Lib.hid (S1.out.below b2); clear b2; refine Hid.out ?_))
    refine Lib.hid ?_
    go_wp2_with (first | (go_at_call 36; refine (scBytes_true _ _ z).mono ?_; rintro e w' ⟨rfl, rfl⟩) | (go_at_call 87; refine (HJ.out _ S2).mono ?_; rintro e w3 ⟨rfl, b3⟩; have B3 := Lib.hid b3; clear b3))
    go_ret2
    exact ⟨rfl, (B1.out.trans (B2.out.mono B1.out.size)).trans (B3.out.mono (Nat.le_trans B1.out.size B2.out.size))⟩
/-- the texts of the first tokens, the rest empty -/
def txL (l : List Tok) (k : Nat) : List ByteArray := (l.take k).map (fun x => x.t) ++ List.replicate (l.length - k) ⟨#[]⟩
theorem txL_len (l : List Tok) (k : Nat) (h : k ≤ l.length) : (txL l k).length = l.length := by unfold txL; simp; omega
theorem txL_set (l : List Tok) (k : Nat) (h : k < l.length) (x : Tok) (hx : l.getD k tok0 = x) : (txL l k).set k x.t = txL l (k + 1) := by
  have hl : l[k] = x := by rw [← hx]; simp [List.getD_eq_getElem?_getD, h]
  unfold txL
  rw [List.set_append_right _ _ (by simp; omega), List.take_succ_eq_append_getElem h, List.map_append, hl, List.append_assoc]
  congr 1
  have e1 : k - ((l.take k).map (fun x => x.t)).length = 0 := by simp; omega
  have e2 : l.length - k = (l.length - (k + 1)) + 1 := by omega
  rw [e1, e2, List.replicate_succ, List.set_cons_zero]
  rfl
theorem txL_all (l : List Tok) : txL l l.length = l.map (fun x => x.t) := by unfold txL; simp
theorem jn_join (l : List Tok) : (⟨(Lib.join ((l.map (fun x => x.t)).map (·.data.toList)) [32]).toArray⟩ : ByteArray) = jS l l.length := by
  unfold jS jL
  rw [List.take_length, List.map_map]
  rfl
def TxRel (W0 : World) (l : List Tok) (n gt : Nat) (i : Value) (wr : World) : Prop := ∃ k : Nat, k ≤ n ∧ i = .int .i64 k ∧ OwnS wr gt gt n n (txL l k) ∧ Below gt W0 wr
theorem impl_join_all (gt : Nat) (l : List Tok) (wr : World) (k : Nat) (hk : l.length = k) (hm : k ≤ 600) (ho : OwnS wr gt gt k k (txL l k)) (J : ByteArray) (HJ : jS l l.length = J) (hz : J.size ≤ 629146200) :
    Calls Tryd.prog 85 #[.slice (some ⟨gt, 0, none⟩) k k, .string ⟨#[32]⟩] wr (fun e w' => e = .returned (.string J) ∧ Below wr.heap.size wr w') := by
  subst hk
  rw [txL_all] at ho
  have hl : (l.map (fun x => x.t)).length = l.length := by simp
  have q := Tryd.strings_Join gt 0 l.length (l.map (fun x => x.t)) ⟨#[32]⟩ wr (by
    intro j x hx
    have hj : j < (l.map (fun x => x.t)).length := by
      rcases Nat.lt_or_ge j (l.map (fun x => x.t)).length with h | h
      · exact h
      · rw [List.getElem?_eq_none h] at hx; cases hx
    rw [Nat.zero_add, OwnS.cell ho j (by omega)]
    rw [List.getD_eq_getElem?_getD, hx]
    rfl) ho.lt.2 (by rw [hl]; omega) (by rw [hl]; exact Nat.le_refl _) (by
      have e := jn_join l
      rw [HJ] at e
      have e2 := congrArg ByteArray.size e
      have e3 : (Lib.join ((l.map (fun x => x.t)).map (·.data.toList)) [32]).length = J.size := by rw [← e2]; simp [ByteArray.size]
      show (Lib.join ((l.map (fun x => x.t)).map (·.data.toList)) [32]).length ≤ _
      rw [e3]; omega)
  rw [hl] at q
  refine q.mono ?_
  rintro e w' ⟨rfl, hb⟩
  have e := jn_join l
  rw [HJ] at e
  exact ⟨by rw [← e], hb⟩
theorem ret_two {a a' : ByteArray} {b : Bool} (h : a' = a) : Ending.returned (.tuple #[.string a, .bool b]) = Ending.returned (.tuple #[.string a', .bool b]) := by rw [h]
/-- where the loop begins -/
theorem tx_start (l : List Tok) (n : Nat) (hn : l.length = n) (hm : n ≤ 600) (w1 : World) :
    OwnS (w1.alloc (.cells (madeCells #[.string ⟨#[]⟩] n) 9)) w1.heap.size w1.heap.size n n (txL l 0) ∧ Below w1.heap.size w1 (w1.alloc (.cells (madeCells #[.string ⟨#[]⟩] n) 9)) := by
  refine ⟨?_, one_new2 w1 _⟩
  have h := World.ownsRow_lit (base := w1.heap.size) (e := 9) (size := 1) w1 (madeCells #[.string ⟨#[]⟩] n) n (Nat.le_refl _) (by unfold maxLen; omega) (by rw [← Array.length_toList, toList_madeCells_one]; simp)
  rw [toList_madeCells_one] at h
  unfold OwnS txL
  rw [hn]
  simpa [sv] using h
theorem OwnS.walk {w : World} {g n : Nat} {l : List ByteArray} (h : OwnS w g g n n l) (k : Nat) (hk : k < n) :
    (∀ o, (w.alloc o).cell? ⟨g, k, none⟩ = some (.string (l.getD k ⟨#[]⟩))) ∧ (∀ o, (w.alloc o).frozen? ⟨g, k, none⟩ = false) :=
  ⟨fun o => OwnS.cell (World.ownsRow.alloc (w := w) h o : OwnS (w.alloc o) g g n n l) k hk, fun o => World.ownsRow.frozenAt (World.ownsRow.alloc (w := w) h o) k⟩
theorem tx_round {W0 wr : World} {l : List Tok} {n gt k : Nat} {T : TypeId} {cs : Array Value} (ho : OwnS wr gt gt n n (txL l k)) (hb : Below gt W0 wr) (hk : k < l.length) (x : Tok) (hx : l.getD k tok0 = x) :
    OwnS ((wr.setCell ⟨gt, k, none⟩ (.string x.t)).alloc (.cells cs T)) gt gt n n (txL l (k + 1)) ∧ Below gt W0 ((wr.setCell ⟨gt, k, none⟩ (.string x.t)).alloc (.cells cs T)) := by
  have hlt := ho.lt.2
  have h2 := ho.store k x.t
  rw [txL_set l k hk x hx] at h2
  have b2 := hb.setCell (p := ⟨gt, k, none⟩) (Nat.le_refl gt) (.string x.t)
  exact ⟨World.ownsRow.alloc h2 _, b2.alloc (by simp; omega) _⟩
set_option maxHeartbeats 3200000 in
theorem implJoin_try (g n c : Nat) (l : List Tok) (w : World) (HT : Hid (Tabs w)) (h : Hid (SlT w (.slice (some ⟨g, 0, none⟩) n c) l)) (HTk : Hid (ToksAt w g l)) (hg : g < w.heap.size) (HZ : Hid (SzT l)) (hn : Hid (l.length = n)) (h0 : 0 < n) (hm : n ≤ 600) (hls : Hid (lsG l = true)) (J : ByteArray) (HJ : Hid (jS l l.length = J)) (b : Bool) (hjz : J.size ≤ 629146200)
    (HS : Hid (∀ w, Calls Tryd.prog 35 #[.string J] w fun e w' => e = .returned (.bool b) ∧ w = w')) (R : ByteArray) (HR : Hid (R = if b then J else ⟨#[]⟩)) :
    Calls Tryd.prog 46 #[.slice (some ⟨g, 0, none⟩) n c] w (SaysTB w R b) := by
  have HA := Lib.hid (fun w HT h => areTokens_any (.slice (some ⟨g, 0, none⟩) n c) l w HT h HZ)
  rw [hls.out] at HA
  have hmk := run_make_row' (P := Tryd.prog) 101 9 (.string ⟨#[]⟩) 16 Tryd.underlying101 infoStr rfl .i64 .i64 n (by omega) (by omega)
  go_enter Tryd.func46, Tryd.ntmps46
  go_wp2_with (go_at_call 84; refine (HA.out _ HT h).mono ?_; rintro e w1 ⟨rfl, b1⟩; have B1 := Lib.hid b1; have K1 := Lib.hid (HTk.out.below b1 hg); have hg1 := Nat.lt_of_lt_of_le hg b1.size; clear b1)
  have hst := tx_start l n hn.out hm w1
  have HST := Lib.hid hst
  clear hst
  go_loopw [16] (fun i wr => TxRel w1 l n w1.heap.size i wr) (fun i _ => n - (intOf i).toNat)
  case atStart => exact ⟨0, Nat.zero_le _, rfl, HST.out.1, HST.out.2⟩
  case round =>
    obtain ⟨k, hk, rfl, ho, hb⟩ := hrel
    have HO := Lib.hid ho
    have HB := Lib.hid hb
    by_cases hlt : k < n
    · obtain ⟨x, hx⟩ : ∃ x, l.getD k tok0 = x := ⟨_, rfl⟩
      have hl1 : k < l.length := by rw [hn.out]; exact hlt
      obtain ⟨a0, a1, a2, a3⟩ := (K1.out.below hb hg1).four k hl1 x hx
      obtain ⟨s0, s1⟩ := ho.walk k hlt
      obtain ⟨xk, xa, xt, xv⟩ := x
      have HX := Lib.hid hx
      have hgt := ho.lt.2
      clear ho hb hx
      go_wp2_with fail
      go_roundw
      case rel =>
        have q := tx_round (T := 32) (cs := #[.int .i64 xk, .int .i64 xa, .string xt, .int .i64 xv]) HO.out HB.out hl1 ⟨xk, xa, xt, xv⟩ HX.out
        exact ⟨k + 1, by omega, by go_num, q.1, q.2⟩
      case measure => simp [intOf]; omega
    · have hkn : k = n := by omega
      subst hkn
      have hgt := ho.lt.2
      have HB1 := Lib.hid (B1.out.trans (HB.out.mono B1.out.size))
      have HJN := Lib.hid (impl_join_all w1.heap.size l wr k hn.out hm ho J HJ.out hjz)
      clear ho hb
      cases b
      all_goals
        go_wp2_with (first | (go_at_call 85; refine (HJN.out).mono ?_; rintro e w2 ⟨rfl, b2⟩; have B2 := Lib.hid b2; clear b2) | (go_at_call 35; refine (HS.out _).mono ?_; rintro e w' ⟨rfl, rfl⟩))
        go_ret2
        exact ⟨ret_two (by rw [HR.out]; rfl), HB1.out.trans (B2.out.mono HB1.out.size)⟩
set_option maxHeartbeats 1600000 in
theorem implJoin_none (a : Option Addr) (c : Nat) (w : World) (HT : Hid (Tabs w)) :
    Calls Tryd.prog 46 #[.slice a 0 c] w (SaysTB w ⟨#[]⟩ true) := by
  have HA := Lib.hid (fun w HT h => areTokens_any (.slice a 0 c) [] w HT h (Lib.hid (fun k h => absurd h (by simp))))
  have e : lsG [] = true := rfl
  rw [e] at HA
  clear e
  have hs := (show Hid (SlT w (.slice a 0 c) []) from Lib.hid (.inl ⟨rfl, a, c, rfl⟩))
  have hmk := run_make_row' (P := Tryd.prog) 101 9 (.string ⟨#[]⟩) 16 Tryd.underlying101 infoStr rfl .i64 .i64 0 (by omega) (by omega)
  rw [show ((0 : Nat) : Int) = 0 from rfl] at hmk
  go_enter Tryd.func46, Tryd.ntmps46
  go_wp2_with (go_at_call 84; refine (HA.out _ HT hs).mono ?_; rintro e w1 ⟨rfl, b1⟩; have B1 := Lib.hid b1; clear b1)
  refine wp_loop_rounds 1 ?_
  rw [rounds_succ]
  go_wp2_with (first | (go_at_call 85; refine (Tryd.strings_Join_none _ _ _ _).mono ?_; rintro e w2 ⟨rfl, rfl⟩) | (go_at_call 35; refine (isText_true _ _ (by decide)).mono ?_; rintro e w' ⟨rfl, rfl⟩))
  go_ret2
  exact ⟨rfl, B1.out.alloc B1.out.size _⟩
theorem implJoin_bad (v : Value) (l : List Tok) (w : World) (HT : Hid (Tabs w)) (h : Hid (SlT w v l)) (HZ : Hid (SzT l)) (hls : lsG l = false) :
    Calls Tryd.prog 46 #[v] w (SaysTB w ⟨#[]⟩ false) := by
  have HA := Lib.hid (fun w HT h => areTokens_any v l w HT h HZ)
  rw [hls] at HA
  clear hls
  go_enter Tryd.func46, Tryd.ntmps46
  go_wp2_with (go_at_call 84; refine (HA.out _ HT h).mono ?_; rintro e w1 ⟨rfl, b1⟩; have B1 := Lib.hid b1; clear b1)
  go_ret2
  exact ⟨rfl, B1.out⟩
theorem implJoin_any (v : Value) (l : List Tok) (w : World) (HT : Hid (Tabs w)) (h : Hid (SlT w v l)) (HZ : Hid (SzT l)) :
    Calls Tryd.prog 46 #[v] w (SaysTB w (jnR l) (jnO l)) := by
  rcases h.out with ⟨hl, ad, c, hv⟩ | ⟨g, c, hv, ht, hg⟩
  · have e1 : jnO [] = true := rfl
    have e2 : jnR [] = ⟨#[]⟩ := rfl
    rw [hl, hv, e1, e2]
    exact implJoin_none ad c w HT
  · rcases Nat.eq_zero_or_pos l.length with h0 | h0
    · have hl := List.eq_nil_of_length_eq_zero h0
      have e1 : jnO [] = true := rfl
      have e2 : jnR [] = ⟨#[]⟩ := rfl
      rw [h0] at hv
      rw [hl, hv, e1, e2]
      exact implJoin_none _ c w HT
    · rcases jn_way l with ⟨hls, o, r⟩ | ⟨hls, z, o, r⟩ | ⟨hls, z, o, r⟩
      · rw [o, r]; exact implJoin_bad v l w HT h HZ hls
      · have hm := lsG_len hls
        have hs := jS_size l HZ.out l.length (Nat.le_refl _)
        rw [o, r, hv]
        rw [hv] at h
        exact implJoin_try g l.length c l w HT h ht hg HZ rfl h0 hm hls (jS l l.length) rfl false (by have := Nat.mul_le_mul_right 1048577 hm; omega) (fun w => isText_false _ w z) _ rfl
      · have hm := lsG_len hls
        have hs := jS_size l HZ.out l.length (Nat.le_refl _)
        rw [o, r, hv]
        rw [hv] at h
        exact implJoin_try g l.length c l w HT h ht hg HZ rfl h0 hm hls (jS l l.length) rfl true (by omega) (fun w => isText_true _ w z) _ rfl
end Go.Proofs.YtdmcgjohpnojkaaDoor
