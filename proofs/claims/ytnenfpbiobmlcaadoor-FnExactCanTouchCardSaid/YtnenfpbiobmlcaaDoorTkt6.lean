/- The texts of good tokens are short; CanTouch: contracts, program and model. -/
import Derived.Test.YtnenfpbiobmlcaaDoorTkt1
import Derived.Test.YtnenfpbiobmlcaaDoorTku
namespace Go.Proofs.YtnenfpbiobmlcaaDoor
set_option maxRecDepth 100000
open Go.RowKit
set_option linter.unusedVariables false

theorem rdN_len (b lim : Int) (hb : 2 ≤ b) : ∀ (l : List UInt8) (n v : Int), 1 ≤ n → n ≤ lim → rdN b lim l n = Option.some v → n * 2 ^ l.length ≤ lim
  | [], n, v, h1, h2, _ => by simpa using h2
  | c :: r, n, v, h1, h2, e => by
    rw [rdN] at e
    split at e
    · rename_i g
      have hnb : n * 2 ≤ n * b := Int.mul_le_mul_of_nonneg_left hb (by omega)
      have hn' : n * 2 ≤ n * b + dg b (c.toNat : Int) := by omega
      have ih := rdN_len b lim hb r _ v (by omega) g.2 e
      have hp : (0 : Int) ≤ 2 ^ r.length := Int.pow_nonneg (by decide)
      have h3 := Int.mul_le_mul_of_nonneg_right hn' hp
      rw [List.length_cons, Int.pow_succ, Int.mul_comm (2 ^ r.length) 2, ← Int.mul_assoc]
      omega
    · cases e
theorem dg_pos (b c : Int) (h : 0 ≤ dg b c) (hc : c ≠ 48) : 1 ≤ dg b c := by
  unfold dg at h ⊢
  split
  · rename_i g
    rw [if_pos g] at h
    unfold dv at h ⊢
    split
    · omega
    · split
      · omega
      · rename_i g1 g2; rw [if_neg g1, if_neg g2] at h; omega
  · rename_i g; rw [if_neg g] at h; omega
theorem two_pow_big {k : Nat} (h : 30 ≤ k) : (1073741824 : Int) ≤ 2 ^ k := by
  have q : 2 ^ 30 ≤ 2 ^ k := Nat.pow_le_pow_right (by decide) h
  have q2 : ((2 ^ 30 : Nat) : Int) ≤ ((2 ^ k : Nat) : Int) := by exact_mod_cast q
  simpa using q2
theorem rdT_len (b lim : Int) (hb : 2 ≤ b) (hl : lim ≤ 1000000000) (l : List UInt8) (v : Int) (h : rdT b lim l = Option.some v) : l.length ≤ 40 := by
  unfold rdT at h
  split at h
  · cases h
  · rename_i hn
    match l, hn, h with
    | [], hn, _ => exact absurd (Or.inl rfl) hn
    | [c], _, _ => simp
    | c :: c2 :: r, hn, h =>
      have hc : c ≠ 48 := fun e => hn (.inr ⟨by simp, by rw [e]; rfl⟩)
      rw [rdN] at h
      split at h
      · rename_i g
        have hd : 1 ≤ 0 * b + dg b (c.toNat : Int) := by
          have hcn : c.toNat ≠ 48 := fun e => hc (UInt8.toNat_inj.1 (by rw [e]; rfl))
          have := dg_pos b (c.toNat : Int) g.1 (by omega)
          omega
        have q := rdN_len b lim hb (c2 :: r) _ v hd g.2 h
        rcases Nat.lt_or_ge (c2 :: r).length 30 with h30 | h30
        · simp at h30 ⊢; omega
        · have h4 := two_pow_big h30
          have h5 : 1 * 2 ^ (c2 :: r).length ≤ (0 * b + dg b (c.toNat : Int)) * 2 ^ (c2 :: r).length := Int.mul_le_mul_of_nonneg_right hd (Int.pow_nonneg (by decide))
          omega
      · cases h
theorem initL_len {l : List UInt8} (h : (initL l).length ≤ 40) : l.length ≤ 41 := by
  unfold initL at h
  rw [List.length_take] at h
  omega
theorem unitN_has {o : Option Int} {f v : Int} (h : unitN o f = Option.some v) : ∃ n, o = Option.some n := by
  cases o with
  | none => cases h
  | some n => exact ⟨n, rfl⟩
theorem rnr_len {l : List UInt8} {v : Int} (h : rnr l = Option.some v) : l.length ≤ 50 := by
  rcases Bool.eq_false_or_eq_true (Lib.hasSuffix l [109]) with h1 | h1
  · rw [rnr_m h1] at h
    obtain ⟨n, hn⟩ := unitN_has h
    have := initL_len (rdT_len 10 1000 (by decide) (by decide) _ n hn)
    omega
  · rcases Bool.eq_false_or_eq_true (Lib.hasSuffix l [107]) with h2 | h2
    · rw [rnr_k h1 h2] at h
      obtain ⟨n, hn⟩ := unitN_has h
      have := initL_len (rdT_len 10 1000000 (by decide) (by decide) _ n hn)
      omega
    · rw [rnr_n h1 h2] at h
      have := rdT_len 10 1000000000 (by decide) (by decide) _ v h
      omega
theorem ray_len {l : List UInt8} {v : Int} (h : ray l = Option.some v) : l.length ≤ 50 := by
  rcases Bool.eq_false_or_eq_true (Lib.hasPrefix l [48, 120]) with hp | hp
  · rw [ray_hex hp, rhx_yes hp] at h
    have := rdT_len 16 65535 (by decide) (by decide) _ v h
    rw [List.length_drop] at this
    omega
  · rw [ray_dec hp] at h
    exact rnr_len h
theorem sgA_size : ∀ x ∈ sgA, x.size ≤ 2 := by decide
theorem wdB_len {l : List UInt8} (h : wdB l = true) : l.length ≤ 12 := by
  unfold wdB at h
  simpa using (Bool.and_eq_true_iff.1 h).2
theorem ftL_short {l : List UInt8} (h : tkFa (ftL l) = 0) : (ftL l).size ≤ 50 := by
  by_cases hs : sgOf l = ⟨#[]⟩
  · have e : ftL l = ⟨(l.take (runN l)).toArray⟩ := by unfold ftL; rw [if_pos hs]
    rcases Nat.eq_zero_or_pos (ftL l).size with hz | hz
    · omega
    · have hl : (ftL l).data.toList = l.take (runN l) := by rw [e]
      rcases tk_way (ftL l) hz with ⟨v, d, r, _, k, x⟩ | ⟨d, r, e2⟩ | ⟨d, q, _, k, x⟩ | ⟨d, q, q2, e2⟩ | ⟨d, q, q2, i, _, k, x⟩ | ⟨d, q, q2, i, _, k, x⟩
      · rw [size_list]; exact ray_len r
      · rw [e2] at h; cases h
      · exfalso
        have hh := hd_at (ftL l) hz
        rw [← hh, hl] at d q
        match l, hz, hl, d, q with
        | [], hz, hl, _, _ => rw [size_list, hl] at hz; simp at hz
        | c :: r, hz, hl, d, q =>
          by_cases hm : mkB (c.toNat : Int) = true
          · have er : runN (c :: r) = runN r + 1 := by rw [runN, if_pos hm]
            rw [er] at d q
            simp only [List.take_succ_cons, tkHd] at d q
            unfold mkB at hm
            rw [d, q] at hm
            cases hm
          · have er : runN (c :: r) = 0 := by rw [runN, if_neg hm]
            rw [size_list, hl, er] at hz
            simp at hz
      · rw [e2] at h; cases h
      · rw [size_list]; have := wdB_len q2; omega
      · rw [size_list]; have := wdB_len q2; omega
  · have e : ftL l = sgOf l := by unfold ftL; rw [if_neg hs]
    rw [e]
    rcases pfxOf_in l sgA with hp | hp
    · exact absurd hp hs
    · have := sgA_size _ hp
      show (pfxOf l sgA).size ≤ 50
      omega
theorem good_size {k a v : Int} {s : ByteArray} (h : goodT k a s v = true) : s.size ≤ 50 := by
  unfold goodT at h
  simp only [Bool.and_eq_true, decide_eq_true_eq, beq_iff_eq] at h
  have q := ftL_short h.2.1
  rcases Classical.em (ftL s.data.toList = s) with e | e
  · rw [e] at q; exact q
  · have := bytes_ne e
    rw [h.2.2.2.1] at this
    simp at this
/-- two boxed tokens keep their cells -/
theorem box_two {w w1 : World} {a0 a1 a2 a3 b0 b1 b2 b3 : Value} {t t' : TypeId} (b : Below ((w.alloc (.cells #[a0, a1, a2, a3] t)).alloc (.cells #[b0, b1, b2, b3] t')).heap.size ((w.alloc (.cells #[a0, a1, a2, a3] t)).alloc (.cells #[b0, b1, b2, b3] t')) w1) :
    FourIs w1 w.heap.size a0 a1 a2 a3 ∧ FourIs w1 (w.heap.size + 1) b0 b1 b2 b3 ∧ Below w.heap.size w w1 := by
  have h : FourIs ((w.alloc (.cells #[a0, a1, a2, a3] t)).alloc (.cells #[b0, b1, b2, b3] t')) w.heap.size a0 a1 a2 a3 := by
    refine ⟨?_, ?_, ?_, ?_, ?_⟩ <;> simp [go_sem]
  have h2 : FourIs ((w.alloc (.cells #[a0, a1, a2, a3] t)).alloc (.cells #[b0, b1, b2, b3] t')) (w.heap.size + 1) b0 b1 b2 b3 := by
    refine ⟨?_, ?_, ?_, ?_, ?_⟩ <;> simp [go_sem]
  exact ⟨h.on b, h2.on b, two_below b⟩
/-- a literal of two tokens -/
theorem lit_slt (w : World) (x y : Tok) (T : TypeId) : SlT (w.alloc (.cells #[.int .i64 x.k, .int .i64 x.a, .string x.t, .int .i64 x.v, .int .i64 y.k, .int .i64 y.a, .string y.t, .int .i64 y.v] T)) (.slice (some ⟨w.heap.size, 0, none⟩) 2 2) [x, y] := by
  refine .inr ⟨w.heap.size, 2, rfl, fun i j hj hi => ?_, by simp⟩
  simp only [List.length_cons, List.length_nil] at hi
  match i, j, hi, hj with
  | 0, 0, _, _ => simp [go_sem, tkC]
  | 0, 1, _, _ => simp [go_sem, tkC]
  | 0, 2, _, _ => simp [go_sem, tkC]
  | 0, 3, _, _ => simp [go_sem, tkC]
  | 1, 0, _, _ => simp [go_sem, tkC]
  | 1, 1, _, _ => simp [go_sem, tkC]
  | 1, 2, _, _ => simp [go_sem, tkC]
  | 1, 3, _, _ => simp [go_sem, tkC]
theorem lit_at (w : World) (n : Nat) (hn : n = w.heap.size) (x y : Tok) (T : TypeId) : SlT (w.alloc (.cells #[.int .i64 x.k, .int .i64 x.a, .string x.t, .int .i64 x.v, .int .i64 y.k, .int .i64 y.a, .string y.t, .int .i64 y.v] T)) (.slice (some ⟨n, 0, none⟩) 2 2) [x, y] := by
  subst hn; exact lit_slt w x y T
def SaysB2 (w : World) (a b : Bool) (e : Ending) (w' : World) : Prop := e = .returned (.tuple #[.bool a, .bool b]) ∧ Below w.heap.size w w'
/-- what CanTouch answers -/
def ctG (x y : Tok) : Bool := goodT x.k x.a x.t x.v && goodT y.k y.a y.t y.v
def ctT (x y : Tok) : Bool := flO (x.t ++ y.t) && sameL (tkT (x.t ++ y.t)).l [x, y]
set_option maxHeartbeats 3200000 in
theorem implCan_first (k a v k' a' v' : Int) (s s' : ByteArray) (w : World) (hs : s.size ≤ 1048576) (hT : Hid (Tabs w)) (hg : goodT k a s v = false) :
    Calls Tryd.prog 41 #[.agg #[.int .i64 k, .int .i64 a, .string s, .int .i64 v], .agg #[.int .i64 k', .int .i64 a', .string s', .int .i64 v']] w (SaysB2 w false false) := by
  have HA := Lib.hid (fun w hT => implIsToken_any k a v s w hs hT)
  rw [hg] at HA
  have T0 := Lib.hid (fun o o' => hT.out.below (two_new w o o'))
  clear hg
  go_enter Tryd.func41, Tryd.ntmps41
  go_wp2_with (go_at_call 26; refine (HA.out _ (T0.out _ _)).mono ?_; rintro e w1 ⟨rfl, b1⟩; have B1 := Lib.hid (two_below b1); clear b1)
  go_ret2
  exact ⟨rfl, B1.out⟩
set_option maxHeartbeats 3200000 in
theorem implCan_second (k a v k' a' v' : Int) (s s' : ByteArray) (w : World) (hs : s.size ≤ 1048576) (hs' : s'.size ≤ 1048576) (hT : Hid (Tabs w)) (hg : goodT k a s v = true) (hg' : goodT k' a' s' v' = false) :
    Calls Tryd.prog 41 #[.agg #[.int .i64 k, .int .i64 a, .string s, .int .i64 v], .agg #[.int .i64 k', .int .i64 a', .string s', .int .i64 v']] w (SaysB2 w false false) := by
  have HA := Lib.hid (fun w hT => implIsToken_any k a v s w hs hT)
  have HA' := Lib.hid (fun w hT => implIsToken_any k' a' v' s' w hs' hT)
  rw [hg] at HA
  rw [hg'] at HA'
  have T0 := Lib.hid (fun o o' => hT.out.below (two_new w o o'))
  clear hg hg'
  go_enter Tryd.func41, Tryd.ntmps41
  go_wp2_with (go_at_call 26; refine (HA.out _ (T0.out _ _)).mono ?_; rintro e w1 ⟨rfl, b1⟩; obtain ⟨F, ⟨c0, c1, c2, c3, cl⟩, B⟩ := box_two b1; have B1 := Lib.hid B; have T1 := Lib.hid (hT.out.below B); clear b1 F B cl; refine Hid.out ?_)
  refine Lib.hid ?_
  go_wp2_with (go_at_call 26; refine (HA'.out _ T1).mono ?_; rintro e w2 ⟨rfl, b2⟩; have B2 := Lib.hid (B1.out.trans (b2.mono B1.out.size)); clear b2)
  go_ret2
  exact ⟨rfl, B2.out⟩
set_option maxHeartbeats 3200000 in
theorem implCan_good (k a v k' a' v' : Int) (s s' : ByteArray) (w : World) (hT : Hid (Tabs w)) (hg : goodT k a s v = true) (hg' : goodT k' a' s' v' = true) :
    Calls Tryd.prog 41 #[.agg #[.int .i64 k, .int .i64 a, .string s, .int .i64 v], .agg #[.int .i64 k', .int .i64 a', .string s', .int .i64 v']] w (SaysB2 w (ctT ⟨k, a, s, v⟩ ⟨k', a', s', v'⟩) true) := by
  have hz := good_size hg
  have hz' := good_size hg'
  have HA := Lib.hid (fun w hT => implIsToken_any k a v s w (by omega) hT)
  have HA' := Lib.hid (fun w hT => implIsToken_any k' a' v' s' w (by omega) hT)
  have HF := Lib.hid (fun w hT => faultless_any (s ++ s') w hT)
  have HO : Hid (ctT ⟨k, a, s, v⟩ ⟨k', a', s', v'⟩ = (flO (s ++ s') && sameL (tkT (s ++ s')).l [⟨k, a, s, v⟩, ⟨k', a', s', v'⟩])) := Lib.hid rfl
  have hl := tkT_len (s ++ s')
  rw [hg] at HA
  rw [hg'] at HA'
  obtain ⟨l, hll⟩ : ∃ l, (tkT (s ++ s')).l = l := ⟨_, rfl⟩
  obtain ⟨o, ho⟩ : ∃ o, flO (s ++ s') = o := ⟨_, rfl⟩
  rw [hll, ho] at HF HO
  rw [hll] at hl
  have T0 := Lib.hid (fun o o' => hT.out.below (two_new w o o'))
  have HL := Lib.hid (fun w => lit_slt w ⟨k, a, s, v⟩ ⟨k', a', s', v'⟩ 24)
  have hl2 : l.length ≤ 1048576 := by omega
  clear hg hg' hll ho hl
  cases o
  · have HX : Hid (ctT ⟨k, a, s, v⟩ ⟨k', a', s', v'⟩ = false) := Lib.hid (by rw [HO.out]; rfl)
    rw [HX.out]
    clear HX HO
    go_enter Tryd.func41, Tryd.ntmps41
    go_wp2_with (go_at_call 26; refine (HA.out _ (T0.out _ _)).mono ?_; rintro e w1 ⟨rfl, b1⟩; obtain ⟨F, ⟨c0, c1, c2, c3, cl⟩, B⟩ := box_two b1; have B1 := Lib.hid B; have T1 := Lib.hid (hT.out.below B); have F1 := Lib.hid (box_two b1); clear b1 F B cl; refine Hid.out ?_)
    refine Lib.hid ?_
    go_wp2_with (go_at_call 26; refine (HA'.out _ T1).mono ?_; rintro e w2 ⟨rfl, b2⟩; have B2 := Lib.hid (B1.out.trans (b2.mono B1.out.size)); have T2 := Lib.hid (hT.out.below B2.out); obtain ⟨d0, d1, d2, d3, dl⟩ := F1.out.1.on b2; obtain ⟨e0, e1, e2, e3, el⟩ := F1.out.2.1.on b2; clear b2 c0 c1 c2 c3 dl el)
    go_wp2_with (go_at_call 58; refine (HF.out _ T2).mono ?_; rintro e w3 ⟨x, rfl, o3, b3⟩; have B3 := Lib.hid (B2.out.trans (b3.mono B2.out.size)); clear b3 o3 d0 d1 d2 d3 e0 e1 e2 e3)
    go_ret2
    exact ⟨rfl, B3.out⟩
  · have HX : Hid (ctT ⟨k, a, s, v⟩ ⟨k', a', s', v'⟩ = sameL l [⟨k, a, s, v⟩, ⟨k', a', s', v'⟩]) := Lib.hid (by rw [HO.out]; rfl)
    rw [HX.out]
    clear HX HO
    have HE := Lib.hid (fun x y w h h' => equalFunc_any x y l [⟨k, a, s, v⟩, ⟨k', a', s', v'⟩] w h h' hl2)
    obtain ⟨r, hr⟩ : ∃ r, sameL l [⟨k, a, s, v⟩, ⟨k', a', s', v'⟩] = r := ⟨_, rfl⟩
    rw [hr] at HE ⊢
    clear hr
    go_enter Tryd.func41, Tryd.ntmps41
    go_wp2_with (go_at_call 26; refine (HA.out _ (T0.out _ _)).mono ?_; rintro e w1 ⟨rfl, b1⟩; obtain ⟨F, ⟨c0, c1, c2, c3, cl⟩, B⟩ := box_two b1; have B1 := Lib.hid B; have T1 := Lib.hid (hT.out.below B); have F1 := Lib.hid (box_two b1); clear b1 F B cl; refine Hid.out ?_)
    refine Lib.hid ?_
    go_wp2_with (go_at_call 26; refine (HA'.out _ T1).mono ?_; rintro e w2 ⟨rfl, b2⟩; have B2 := Lib.hid (B1.out.trans (b2.mono B1.out.size)); have T2 := Lib.hid (hT.out.below B2.out); have F2 := Lib.hid (And.intro (F1.out.1.on b2) (F1.out.2.1.on b2)); obtain ⟨d0, d1, d2, d3, dl⟩ := F1.out.1.on b2; obtain ⟨e0, e1, e2, e3, el⟩ := F1.out.2.1.on b2; clear b2 c0 c1 c2 c3 dl el)
    go_wp2_with (go_at_call 58; refine (HF.out _ T2).mono ?_; rintro e w3 ⟨x, rfl, o3, b3⟩; have B3 := Lib.hid (B2.out.trans (b3.mono B2.out.size)); have O3 := Lib.hid o3.slt; clear o3 d0 d1 d2 d3 e0 e1 e2 e3; obtain ⟨d0, d1, d2, d3, dl⟩ := F2.out.1.on b3; obtain ⟨e0, e1, e2, e3, el⟩ := F2.out.2.on b3; clear b3 dl el)
    go_wp2_with (go_at_call 60; refine (HE.out x _ _ (Lib.hid (O3.out.below (one_new2 _ _))) (Lib.hid (HL.out _))).mono ?_; rintro e w4 ⟨rfl, b4⟩; have B4 := Lib.hid ((one_new2 _ _).trans (b4.mono (one_new2 _ _).size)); clear b4)
    go_ret2
    exact ⟨rfl, B3.out.trans (B4.out.mono B3.out.size)⟩
theorem implCan_any (k a v k' a' v' : Int) (s s' : ByteArray) (w : World) (hs : s.size ≤ 1048576) (hs' : s'.size ≤ 1048576) (hT : Hid (Tabs w)) :
    Calls Tryd.prog 41 #[.agg #[.int .i64 k, .int .i64 a, .string s, .int .i64 v], .agg #[.int .i64 k', .int .i64 a', .string s', .int .i64 v']] w (SaysB2 w (ctG ⟨k, a, s, v⟩ ⟨k', a', s', v'⟩ && ctT ⟨k, a, s, v⟩ ⟨k', a', s', v'⟩) (ctG ⟨k, a, s, v⟩ ⟨k', a', s', v'⟩)) := by
  rcases Bool.eq_false_or_eq_true (goodT k a s v) with hg | hg
  · rcases Bool.eq_false_or_eq_true (goodT k' a' s' v') with hg' | hg'
    · have e : ctG ⟨k, a, s, v⟩ ⟨k', a', s', v'⟩ = true := by unfold ctG; rw [hg, hg']; rfl
      rw [e, Bool.true_and]
      exact implCan_good k a v k' a' v' s s' w hT hg hg'
    · have e : ctG ⟨k, a, s, v⟩ ⟨k', a', s', v'⟩ = false := by unfold ctG; rw [hg, hg']; rfl
      rw [e, Bool.false_and]
      exact implCan_second k a v k' a' v' s s' w hs hs' hT hg hg'
  · have e : ctG ⟨k, a, s, v⟩ ⟨k', a', s', v'⟩ = false := by unfold ctG; rw [hg]; rfl
    rw [e, Bool.false_and]
    exact implCan_first k a v k' a' v' s s' w hs hT hg
set_option maxHeartbeats 3200000 in
theorem specCan_first (k a v k' a' v' : Int) (s s' : ByteArray) (w : World) (hs : s.size ≤ 1048576) (hg : goodT k a s v = false) :
    Calls Tryd.prog 40 #[.agg #[.int .i64 k, .int .i64 a, .string s, .int .i64 v], .agg #[.int .i64 k', .int .i64 a', .string s', .int .i64 v']] w (SaysB2 w false false) := by
  have HA := Lib.hid (fun w => specGood_any k a v s w hs)
  rw [hg] at HA
  clear hg
  go_enter Tryd.func40, Tryd.ntmps40
  go_wp2_with (go_at_call 53; refine (HA.out _).mono ?_; rintro e w1 ⟨rfl, b1⟩; have B1 := Lib.hid (two_below b1); clear b1)
  go_ret2
  exact ⟨rfl, B1.out⟩
set_option maxHeartbeats 3200000 in
theorem specCan_second (k a v k' a' v' : Int) (s s' : ByteArray) (w : World) (hs : s.size ≤ 1048576) (hs' : s'.size ≤ 1048576) (hg : goodT k a s v = true) (hg' : goodT k' a' s' v' = false) :
    Calls Tryd.prog 40 #[.agg #[.int .i64 k, .int .i64 a, .string s, .int .i64 v], .agg #[.int .i64 k', .int .i64 a', .string s', .int .i64 v']] w (SaysB2 w false false) := by
  have HA := Lib.hid (fun w => specGood_any k a v s w hs)
  have HA' := Lib.hid (fun w => specGood_any k' a' v' s' w hs')
  rw [hg] at HA
  rw [hg'] at HA'
  clear hg hg'
  go_enter Tryd.func40, Tryd.ntmps40
  go_wp2_with (go_at_call 53; refine (HA.out _).mono ?_; rintro e w1 ⟨rfl, b1⟩; obtain ⟨F, ⟨c0, c1, c2, c3, cl⟩, B⟩ := box_two b1; have B1 := Lib.hid B; clear b1 F B cl; refine Hid.out ?_)
  refine Lib.hid ?_
  go_wp2_with (go_at_call 53; refine (HA'.out _).mono ?_; rintro e w2 ⟨rfl, b2⟩; have B2 := Lib.hid (B1.out.trans (b2.mono B1.out.size)); clear b2)
  go_ret2
  exact ⟨rfl, B2.out⟩
set_option maxHeartbeats 800000 in
theorem specCan_good (k a v k' a' v' : Int) (s s' : ByteArray) (w : World) (hg : goodT k a s v = true) (hg' : goodT k' a' s' v' = true) :
    Calls Tryd.prog 40 #[.agg #[.int .i64 k, .int .i64 a, .string s, .int .i64 v], .agg #[.int .i64 k', .int .i64 a', .string s', .int .i64 v']] w (SaysB2 w (ctT ⟨k, a, s, v⟩ ⟨k', a', s', v'⟩) true) := by
  have hz := good_size hg
  have hz' := good_size hg'
  have ht : (s ++ s').size ≤ 4000 := by rw [ByteArray.size_append]; omega
  have HA := Lib.hid (fun w => specGood_any k a v s w (by omega))
  have HA' := Lib.hid (fun w => specGood_any k' a' v' s' w (by omega))
  have HF := Lib.hid (fun w => tkAll_any (s ++ s') w (by omega))
  have HO : Hid (ctT ⟨k, a, s, v⟩ ⟨k', a', s', v'⟩ = (((tkL (s ++ s')).f == 0) && sameL (tkL (s ++ s')).l [⟨k, a, s, v⟩, ⟨k', a', s', v'⟩])) := Lib.hid (by unfold ctT flO; rw [(tkT_yes ht).1, (tkT_yes ht).2, Bool.true_and])
  have hl := tkT_len (s ++ s')
  rw [(tkT_yes ht).1] at hl
  rw [hg] at HA
  rw [hg'] at HA'
  obtain ⟨R, hR⟩ : ∃ R, tkL (s ++ s') = R := ⟨_, rfl⟩
  rw [hR] at HF HO hl
  obtain ⟨l, f, g⟩ := R
  have hl2 : l.length ≤ 1048576 := Nat.le_trans hl (by omega)
  have HL := Lib.hid (fun w n hn => lit_at w n hn ⟨k, a, s, v⟩ ⟨k', a', s', v'⟩ 24)
  have HE := Lib.hid (fun x y w h h' => tkSame_any x y l [⟨k, a, s, v⟩, ⟨k', a', s', v'⟩] w h h' hl2)
  clear hg hg' hR hl ht
  by_cases hf : f = 0
  · subst hf
    have HX : Hid (ctT ⟨k, a, s, v⟩ ⟨k', a', s', v'⟩ = sameL l [⟨k, a, s, v⟩, ⟨k', a', s', v'⟩]) := Lib.hid (by rw [HO.out]; rfl)
    rw [HX.out]
    clear HX HO
    obtain ⟨r, hr⟩ : ∃ r, sameL l [⟨k, a, s, v⟩, ⟨k', a', s', v'⟩] = r := ⟨_, rfl⟩
    rw [hr] at HE ⊢
    clear hr
    go_enter Tryd.func40, Tryd.ntmps40
    go_wp2_with (go_at_call 53; refine (HA.out _).mono ?_; rintro e w1 ⟨rfl, b1⟩; obtain ⟨F, ⟨c0, c1, c2, c3, cl⟩, B⟩ := box_two b1; have B1 := Lib.hid B; have F1 := Lib.hid (box_two b1); clear b1 F B cl; refine Hid.out ?_)
    refine Lib.hid ?_
    go_wp2_with (go_at_call 53; refine (HA'.out _).mono ?_; rintro e w2 ⟨rfl, b2⟩; have B2 := Lib.hid (B1.out.trans (b2.mono B1.out.size)); have F2 := Lib.hid (And.intro (F1.out.1.on b2) (F1.out.2.1.on b2)); obtain ⟨d0, d1, d2, d3, dl⟩ := F1.out.1.on b2; obtain ⟨e0, e1, e2, e3, el⟩ := F1.out.2.1.on b2; clear b2 c0 c1 c2 c3 dl el)
    go_wp2_with (go_at_call 50; refine (HF.out _).mono ?_; rintro e w3 ⟨x, rfl, o3, b3⟩; have B3 := Lib.hid (B2.out.trans (b3.mono B2.out.size)); have O3 := Lib.hid o3.slt; clear o3 d0 d1 d2 d3 e0 e1 e2 e3; obtain ⟨d0, d1, d2, d3, dl⟩ := (F2.out.1.on b3).on (one_new2 _ (.cells #[.int .i64 0, .int .i64 g] 26)); obtain ⟨e0, e1, e2, e3, el⟩ := (F2.out.2.on b3).on (one_new2 _ (.cells #[.int .i64 0, .int .i64 g] 26)); clear b3 dl el)
    go_wp2_with (go_at_call 59; refine (HE.out x _ _ (Lib.hid ((O3.out.below (one_new2 _ _)).below (one_new2 _ _))) (Lib.hid (HL.out _ _ (by simp)))).mono ?_; rintro e w4 ⟨rfl, b4⟩; have B4 := Lib.hid (two_below b4); clear b4)
    go_ret2
    exact ⟨rfl, B3.out.trans (B4.out.mono B3.out.size)⟩
  · have df : (f == 0) = false := by simpa using hf
    have HX : Hid (ctT ⟨k, a, s, v⟩ ⟨k', a', s', v'⟩ = false) := Lib.hid (by rw [HO.out]; show ((f == 0) && _) = false; rw [df]; rfl)
    rw [HX.out]
    clear HX HO hf
    go_enter Tryd.func40, Tryd.ntmps40
    go_wp2_with (go_at_call 53; refine (HA.out _).mono ?_; rintro e w1 ⟨rfl, b1⟩; obtain ⟨F, ⟨c0, c1, c2, c3, cl⟩, B⟩ := box_two b1; have B1 := Lib.hid B; have F1 := Lib.hid (box_two b1); clear b1 F B cl; refine Hid.out ?_)
    refine Lib.hid ?_
    go_wp2_with (go_at_call 53; refine (HA'.out _).mono ?_; rintro e w2 ⟨rfl, b2⟩; have B2 := Lib.hid (B1.out.trans (b2.mono B1.out.size)); obtain ⟨d0, d1, d2, d3, dl⟩ := F1.out.1.on b2; obtain ⟨e0, e1, e2, e3, el⟩ := F1.out.2.1.on b2; clear b2 c0 c1 c2 c3 dl el)
    go_wp2_with (go_at_call 50; refine (HF.out _).mono ?_; rintro e w3 ⟨x, rfl, o3, b3⟩; have B3 := Lib.hid (B2.out.trans (b3.mono B2.out.size)); clear b3 o3 d0 d1 d2 d3 e0 e1 e2 e3)
    go_ret2
    exact ⟨rfl, B3.out.alloc B3.out.size _⟩
theorem specCan_any (k a v k' a' v' : Int) (s s' : ByteArray) (w : World) (hs : s.size ≤ 1048576) (hs' : s'.size ≤ 1048576) :
    Calls Tryd.prog 40 #[.agg #[.int .i64 k, .int .i64 a, .string s, .int .i64 v], .agg #[.int .i64 k', .int .i64 a', .string s', .int .i64 v']] w (SaysB2 w (ctG ⟨k, a, s, v⟩ ⟨k', a', s', v'⟩ && ctT ⟨k, a, s, v⟩ ⟨k', a', s', v'⟩) (ctG ⟨k, a, s, v⟩ ⟨k', a', s', v'⟩)) := by
  rcases Bool.eq_false_or_eq_true (goodT k a s v) with hg | hg
  · rcases Bool.eq_false_or_eq_true (goodT k' a' s' v') with hg' | hg'
    · have e : ctG ⟨k, a, s, v⟩ ⟨k', a', s', v'⟩ = true := by unfold ctG; rw [hg, hg']; rfl
      rw [e, Bool.true_and]
      exact specCan_good k a v k' a' v' s s' w hg hg'
    · have e : ctG ⟨k, a, s, v⟩ ⟨k', a', s', v'⟩ = false := by unfold ctG; rw [hg, hg']; rfl
      rw [e, Bool.false_and]
      exact specCan_second k a v k' a' v' s s' w hs hs' hg hg'
  · have e : ctG ⟨k, a, s, v⟩ ⟨k', a', s', v'⟩ = false := by unfold ctG; rw [hg]; rfl
    rw [e, Bool.false_and]
    exact specCan_first k a v k' a' v' s s' w hs hg
end Go.Proofs.YtnenfpbiobmlcaaDoor
