/- The tokens of a text, joined by single blanks and read again: plain facts. -/
import Derived.Test.YtdmcgjohpnojkaaDoorTkf
import Derived.Test.YtdmcgjohpnojkaaDoorTkx
import Derived.Deep.QuietTactic
import Derived.BigQuiet
namespace Go.Proofs.YtdmcgjohpnojkaaDoor
set_option maxRecDepth 100000
open Go.RowKit
set_option linter.unusedVariables false

/-- a text that is a token -/
def IsTok (t : ByteArray) : Prop := tkFa t = 0 ∧ ftL t.data.toList = t
theorem tok_ne {t : ByteArray} (h : IsTok t) : 0 < t.size := by
  rcases Nat.eq_zero_or_pos t.size with hz | hz
  · have := h.1
    rw [tk_nil t hz] at this
    cases this
  · exact hz
theorem run_all : ∀ (l : List UInt8), runN l = l.length → ∀ c ∈ l, mkB (c.toNat : Int) = true
  | [], _, c, hc => by simp at hc
  | d :: r, h, c, hc => by
    unfold runN at h
    by_cases hd : mkB (d.toNat : Int) = true
    · rw [if_pos hd, List.length_cons] at h
      rcases List.mem_cons.1 hc with e | e
      · rw [e]; exact hd
      · exact run_all r (by omega) c e
    · rw [if_neg hd, List.length_cons] at h
      omega
theorem run_app : ∀ (l rest : List UInt8), (∀ c ∈ l, mkB (c.toNat : Int) = true) → runN (l ++ rest) = l.length + runN rest
  | [], rest, _ => by simp
  | c :: r, rest, h => by
    rw [List.cons_append, runN, if_pos (h c (by simp)), run_app r rest (fun d hd => h d (by simp [hd])), List.length_cons]
    omega
theorem tok_cases {t : ByteArray} (h : IsTok t) : t ∈ sgA ∨ ∀ c ∈ t.data.toList, mkB (c.toNat : Int) = true := by
  have hf := h.2
  unfold ftL at hf
  by_cases hs : sgOf t.data.toList = ⟨#[]⟩
  · rw [if_pos hs] at hf
    refine .inr (run_all _ ?_)
    have e := congrArg (fun b : ByteArray => b.data.toList.length) hf
    simp only [List.length_take] at e
    have := runN_le t.data.toList
    omega
  · rw [if_neg hs] at hf
    rcases pfxOf_in t.data.toList sgA with q | q
    · exact absurd q hs
    · left
      rw [← hf]
      exact q
def Stop (rest : List UInt8) : Prop := rest = [] ∨ ∃ r, rest = 32 :: r
theorem ft_app {t : ByteArray} (h : IsTok t) {rest : List UInt8} (hr : Stop rest) : ftL (t.data.toList ++ rest) = t := by
  rcases tok_cases h with hs | hm
  · simp only [sgA, List.mem_cons, List.not_mem_nil, or_false] at hs
    rcases hs with rfl | rfl | rfl | rfl | rfl | rfl <;> simp [ftL, sgOf, sgA, pfxOf, Lib.hasPrefix, List.isPrefixOf]
  · have hz := tok_ne h
    rw [size_list] at hz
    obtain ⟨c, r, hl⟩ : ∃ c r, t.data.toList = c :: r := by
      cases hq : t.data.toList with
      | nil => rw [hq] at hz; simp at hz
      | cons c r => exact ⟨c, r, rfl⟩
    have hc : mkB (c.toNat : Int) = true := hm c (by rw [hl]; simp)
    have h0 : runN rest = 0 := by
      rcases hr with rfl | ⟨r', rfl⟩
      · rfl
      · rw [runN, if_neg (by decide)]
    have hn := run_app t.data.toList rest hm
    rw [h0, Nat.add_zero] at hn
    unfold ftL
    have hsg : sgOf (t.data.toList ++ rest) = ⟨#[]⟩ := by rw [hl, List.cons_append]; exact sg_none _ _ hc
    rw [if_pos hsg, hn, List.take_left]
theorem sk_tok {t : ByteArray} (h : IsTok t) (rest : List UInt8) : skL false (t.data.toList ++ rest) = 0 := by
  have key : ∀ (c : UInt8) (r : List UInt8), c.toNat ≠ 10 → c.toNat ≠ 32 → c.toNat ≠ 9 → c.toNat ≠ 92 → c.toNat ≠ 35 → skL false (c :: r) = 0 := by
    intro c r h1 h2 h3 h4 h5
    rw [skL, if_neg h1, if_neg (by simp), if_neg (by omega), if_neg h4, if_neg h5]
  rcases tok_cases h with hs | hm
  · simp only [sgA, List.mem_cons, List.not_mem_nil, or_false] at hs
    rcases hs with rfl | rfl | rfl | rfl | rfl | rfl <;> exact key _ _ (by decide) (by decide) (by decide) (by decide) (by decide)
  · have hz := tok_ne h
    rw [size_list] at hz
    obtain ⟨c, r, hl⟩ : ∃ c r, t.data.toList = c :: r := by
      cases hq : t.data.toList with
      | nil => rw [hq] at hz; simp at hz
      | cons c r => exact ⟨c, r, rfl⟩
    have hc : mkB (c.toNat : Int) = true := hm c (by rw [hl]; simp)
    rw [hl, List.cons_append]
    unfold mkB letB digB at hc
    simp only [Bool.or_eq_true, Bool.and_eq_true, decide_eq_true_eq] at hc
    exact key _ _ (by omega) (by omega) (by omega) (by omega) (by omega)
theorem sk_sp {t : ByteArray} (h : IsTok t) (rest : List UInt8) : skL false (32 :: (t.data.toList ++ rest)) = 1 := by
  rw [skL, if_neg (by decide), if_neg (by simp), if_pos (by decide), sk_tok h rest]
/-- the tokens that are read again behind an index -/
def again : List ByteArray → Nat → List Tok
  | [], _ => []
  | t :: r, i => ⟨tkKi t, ((i + 1 : Nat) : Int), t, tkVa t⟩ :: again r (i + 1 + t.size)
def jT (ts : List ByteArray) : List UInt8 := Lib.joinTail [32] (ts.map fun t => t.data.toList)
theorem jT_nil : jT [] = [] := rfl
theorem jT_cons (t : ByteArray) (r : List ByteArray) : jT (t :: r) = 32 :: (t.data.toList ++ jT r) := by
  unfold jT Lib.joinTail
  simp
theorem jT_stop (ts : List ByteArray) : Stop (jT ts) := by
  cases ts with
  | nil => exact .inl rfl
  | cons t r => exact .inr ⟨_, jT_cons t r⟩
theorem tkA_here {s t : ByteArray} {i n : Nat} {rest : List UInt8} (h : IsTok t) (hr : Stop rest) (hn : i + skL false (s.data.toList.drop i) = n) (hd : s.data.toList.drop n = t.data.toList ++ rest) : tkA s i = ⟨tkKi t, n, t, tkVa t, n + t.size, 0, 0⟩ ∧ n + t.size ≤ s.size := by
  have hl := congrArg List.length hd
  rw [List.length_drop, List.length_append, ← size_list, ← size_list] at hl
  have hz := tok_ne h
  exact ⟨tkA_tok hn (by omega) (by rw [hd]; exact ft_app h hr) h.1, by omega⟩
theorem drop_tok {s t : ByteArray} {n : Nat} {rest : List UInt8} (hd : s.data.toList.drop n = t.data.toList ++ rest) : s.data.toList.drop (n + t.size) = rest := by
  rw [← List.drop_drop, hd, size_list, List.drop_left]
theorem go_again (s : ByteArray) : ∀ (ts : List ByteArray) (m i : Nat) (acc : List Tok), (∀ t ∈ ts, IsTok t) → i ≤ s.size → s.data.toList.drop i = jT ts → ts.length < m → acc.length + ts.length ≤ 600 → tkGo s m i acc = ⟨acc ++ again ts i, 0, 0⟩
  | [], m, i, acc, _, hi, hd, hm, ha => by
    obtain ⟨m, rfl⟩ : ∃ k, m = k + 1 := ⟨m - 1, by simp at hm; omega⟩
    have hl := congrArg List.length hd
    rw [jT_nil, List.length_drop, ← size_list] at hl
    have e := tkA_end (s := s) (i := i) (n := i) (by rw [hd, jT_nil]; rfl) (by simp at hl; omega)
    rw [go_stop rfl e]
    simp [again]
  | t :: r, m, i, acc, ht, hi, hd, hm, ha => by
    obtain ⟨m, rfl⟩ : ∃ k, m = k + 1 := ⟨m - 1, by simp at hm; omega⟩
    have h := ht t (by simp)
    rw [jT_cons] at hd
    have hd1 : s.data.toList.drop (i + 1) = t.data.toList ++ jT r := by rw [← List.drop_drop, hd]; rfl
    obtain ⟨e, hz⟩ := tkA_here (s := s) (i := i) (n := i + 1) h (jT_stop r) (by rw [hd, sk_sp h]) hd1
    rw [← go_more rfl e (tkKi_ne h.1) (by simp at ha; omega)]
    rw [go_again s r m (i + 1 + t.size) _ (fun x hx => ht x (by simp [hx])) hz (drop_tok hd1) (by simp at hm; omega) (by simp at ha ⊢; omega)]
    simp [again]
/-- the tokens of texts that are joined by single blanks -/
def anew : List ByteArray → List Tok
  | [] => []
  | t :: r => ⟨tkKi t, 0, t, tkVa t⟩ :: again r t.size
theorem tkL_anew (ts : List ByteArray) (s : ByteArray) (ht : ∀ t ∈ ts, IsTok t) (hs : s.data.toList = Lib.join (ts.map fun t => t.data.toList) [32]) (hn : ts.length ≤ 600) : tkL s = ⟨anew ts, 0, 0⟩ := by
  unfold tkL
  cases ts with
  | nil =>
    have := go_again s [] 601 0 [] (by simp) (Nat.zero_le _) (by rw [List.drop_zero, hs]; rfl) (by simp) (by simp)
    exact this
  | cons t r =>
    have h := ht t (by simp)
    rw [List.map_cons, Lib.join_cons] at hs
    have hd : s.data.toList.drop 0 = t.data.toList ++ jT r := by rw [List.drop_zero, hs]; rfl
    obtain ⟨e, hz⟩ := tkA_here (s := s) (i := 0) (n := 0) h (jT_stop r) (by rw [hd, sk_tok h]) hd
    rw [← go_more rfl e (tkKi_ne h.1) (by simp)]
    rw [go_again s r 600 (0 + t.size) _ (fun x hx => ht x (by simp [hx])) hz (drop_tok hd) (by simp at hn; omega) (by simp at hn ⊢; omega)]
    simp [anew]
/-- a token that a text can have -/
theorem good_tok {x : Tok} (h : goodT x.k x.a x.t x.v = true) : IsTok x.t ∧ tkKi x.t = x.k ∧ tkVa x.t = x.v := by
  unfold goodT at h
  simp only [Bool.and_eq_true, decide_eq_true_eq, beq_iff_eq] at h
  obtain ⟨_, h1, h2, h3, h4⟩ := h
  have e : ftL x.t.data.toList = x.t := by
    rw [ByteArray.toList_eq, ByteArray.toList_eq] at h3
    exact ByteArray.ext (Array.toList_inj.1 h3)
  rw [e] at h1 h2 h4
  exact ⟨⟨h1, e⟩, h2, h4⟩
theorem tok_good {t : ByteArray} (h : IsTok t) {a : Int} (ha : 0 ≤ a ∧ a ≤ 4000) : goodT (tkKi t) a t (tkVa t) = true := by
  unfold goodT
  rw [h.2, h.1, inB_true ha.1 ha.2]
  simp
theorem alG_all : ∀ (l : List Tok), alG l = true ↔ ∀ x ∈ l, goodT x.k x.a x.t x.v = true
  | [] => by simp [alG]
  | x :: r => by rw [alG, Bool.and_eq_true, alG_all r]; simp
theorem again_texts : ∀ (ts : List ByteArray) (i : Nat), (again ts i).map (fun x => x.t) = ts
  | [], _ => rfl
  | t :: r, i => by rw [again, List.map_cons, again_texts r]
theorem anew_texts (ts : List ByteArray) : (anew ts).map (fun x => x.t) = ts := by
  cases ts with
  | nil => rfl
  | cons t r => rw [anew, List.map_cons, again_texts]
theorem again_good (N : Nat) : ∀ (ts : List ByteArray) (i : Nat), (∀ t ∈ ts, IsTok t) → i + (jT ts).length ≤ N → N ≤ 4000 → alG (again ts i) = true
  | [], _, _, _, _ => rfl
  | t :: r, i, h, hn, hN => by
    rw [jT_cons, List.length_cons, List.length_append, ← size_list] at hn
    rw [again, alG, tok_good (h t (by simp)) ⟨by show (0 : Int) ≤ ((i + 1 : Nat) : Int); omega, by show ((i + 1 : Nat) : Int) ≤ 4000; omega⟩, again_good N r (i + 1 + t.size) (fun x hx => h x (by simp [hx])) (by omega) hN]
    rfl
theorem same_self (x : Tok) (h : tkKi x.t = x.k ∧ tkVa x.t = x.v) (a : Int) : sameB x ⟨tkKi x.t, a, x.t, tkVa x.t⟩ = true := by
  unfold sameB
  simp [h.1, h.2]
theorem again_same : ∀ (l : List Tok) (i : Nat), (∀ x ∈ l, tkKi x.t = x.k ∧ tkVa x.t = x.v) → sameL l (again (l.map fun x => x.t) i) = true
  | [], _, _ => rfl
  | x :: r, i, h => by
    rw [List.map_cons, again, sameL, same_self x (h x (by simp)), again_same r _ (fun y hy => h y (by simp [hy]))]
    rfl
theorem anew_same (l : List Tok) (h : ∀ x ∈ l, tkKi x.t = x.k ∧ tkVa x.t = x.v) : sameL l (anew (l.map fun x => x.t)) = true := by
  cases l with
  | nil => rfl
  | cons x r =>
    rw [List.map_cons, anew, sameL, same_self x (h x (by simp)), again_same r _ (fun y hy => h y (by simp [hy]))]
    rfl
theorem jS_list (l : List Tok) : (jS l l.length).data.toList = Lib.join ((l.map fun x => x.t).map fun t => t.data.toList) [32] := by
  unfold jS jL
  rw [List.take_length, List.map_map]
  simp
  rfl
/-- a spaced text has the tokens of its text, and is its own spaced text -/
theorem sp_again {s : ByteArray} (h : spO s = true) : flO (spR s) = true ∧ smR s (spR s) = true ∧ spO (spR s) = true ∧ spR (spR s) = spR s := by
  have hfl : flO s = true := by unfold spO at h; exact (Bool.and_eq_true_iff.1 h).1
  obtain ⟨e1, e2⟩ := sp_yes hfl
  rw [e1] at h
  obtain ⟨l, hl⟩ : ∃ l, (tkT s).l = l := ⟨_, rfl⟩
  rw [hl] at h e2
  have hj : jnR l = jS l l.length := by unfold jnR; rw [if_pos h]
  rw [e2, hj]
  obtain ⟨J, hJ⟩ : ∃ J, jS l l.length = J := ⟨_, rfl⟩
  have hJl := jS_list l
  unfold jnO lsG at h
  simp only [Bool.and_eq_true, decide_eq_true_eq] at h
  obtain ⟨⟨hg, h600⟩, h4000⟩ := h
  have hall := (alG_all l).1 hg
  have hts : ∀ t ∈ l.map (fun x => x.t), IsTok t := fun t ht => by
    obtain ⟨x, hx, rfl⟩ := List.mem_map.1 ht
    exact (good_tok (hall x hx)).1
  rw [hJ] at hJl h4000 ⊢
  have hT := tkL_anew (l.map fun x => x.t) J hts hJl (by simpa using h600)
  have hTT : tkT J = ⟨anew (l.map fun x => x.t), 0, 0⟩ := by unfold tkT; rw [if_pos h4000]; exact hT
  have hF : flO J = true := by unfold flO tkO; rw [hTT, decide_eq_true h4000]; rfl
  have hS : smR s J = true := by
    unfold smR smO
    rw [hfl, hF, hl, hTT, anew_same l (fun x hx => (good_tok (hall x hx)).2)]
    rfl
  have hlen : (anew (l.map fun x => x.t)).length = l.length := by
    have := congrArg List.length (anew_texts (l.map fun x => x.t))
    simpa using this
  have hj2 : jS (anew (l.map fun x => x.t)) (anew (l.map fun x => x.t)).length = J := by
    have q := jS_list (anew (l.map fun x => x.t))
    rw [anew_texts, ← hJl] at q
    exact ByteArray.ext (Array.toList_inj.1 q)
  have hA : alG (anew (l.map fun x => x.t)) = true := by
    cases hc : l.map (fun x => x.t) with
    | nil => rfl
    | cons t r =>
      rw [hc] at hJl hts
      rw [List.map_cons, Lib.join_cons] at hJl
      have hz := congrArg List.length hJl
      rw [List.length_append, ← size_list, ← size_list] at hz
      rw [anew, alG, tok_good (hts t (by simp)) ⟨by show (0 : Int) ≤ 0; omega, by show (0 : Int) ≤ 4000; omega⟩, again_good J.size r t.size (fun x hx => hts x (by simp [hx])) (by unfold jT; omega) h4000]
      rfl
  have hO : jnO (anew (l.map fun x => x.t)) = true := by
    unfold jnO lsG
    rw [hA, hlen]
    rw [hlen] at hj2
    rw [hj2, decide_eq_true h600, decide_eq_true h4000]
    rfl
  obtain ⟨g1, g2⟩ := sp_yes hF
  refine ⟨hF, hS, by rw [g1, hTT]; exact hO, ?_⟩
  rw [g2, hTT]
  unfold jnR
  rw [if_pos hO, hj2]
/-! The tokens of a text lie in it one after the other. -/
theorem run_take : ∀ (l : List UInt8), ∀ c ∈ l.take (runN l), mkB (c.toNat : Int) = true
  | [], c, h => by simp at h
  | d :: r, c, h => by
    unfold runN at h
    by_cases hd : mkB (d.toNat : Int) = true
    · rw [if_pos hd, List.take_succ_cons] at h
      rcases List.mem_cons.1 h with e | e
      · rw [e]; exact hd
      · exact run_take r c e
    · rw [if_neg hd] at h
      simp at h
theorem ft_idem (l : List UInt8) (h : tkFa (ftL l) = 0) : IsTok (ftL l) := by
  refine ⟨h, ?_⟩
  by_cases hs : sgOf l = ⟨#[]⟩
  · have e : ftL l = ⟨(l.take (runN l)).toArray⟩ := by unfold ftL; rw [if_pos hs]
    rw [e] at h ⊢
    have hl : (⟨(l.take (runN l)).toArray⟩ : ByteArray).data.toList = l.take (runN l) := by simp
    have hm := run_take l
    obtain ⟨m, hmm⟩ : ∃ m, l.take (runN l) = m := ⟨_, rfl⟩
    rw [hmm] at h hl hm ⊢
    rw [hl]
    cases m with
    | nil => exact absurd h (by decide)
    | cons c r =>
      have hn := run_app (c :: r) [] hm
      rw [List.append_nil] at hn
      have h0 : runN [] = 0 := rfl
      rw [h0, Nat.add_zero] at hn
      unfold ftL
      rw [if_pos (sg_none _ _ (hm c (by simp))), hn, List.take_length]
  · have e : ftL l = sgOf l := by unfold ftL; rw [if_neg hs]
    rw [e]
    rcases pfxOf_in l sgA with q | q
    · exact absurd q hs
    · have q' : sgOf l ∈ sgA := q
      generalize sgOf l = t at q'
      simp only [sgA, List.mem_cons, List.not_mem_nil, or_false] at q'
      rcases q' with rfl | rfl | rfl | rfl | rfl | rfl <;> decide
theorem ft_prefix (l : List UInt8) : (ftL l).data.toList <+: l := by
  unfold ftL
  split
  · show (⟨(l.take (runN l)).toArray⟩ : ByteArray).data.toList <+: l
    rw [show (⟨(l.take (runN l)).toArray⟩ : ByteArray).data.toList = l.take (runN l) by simp]
    exact List.take_prefix _ _
  · have := pfxOf_pfx l sgA
    unfold Lib.hasPrefix at this
    exact List.isPrefixOf_iff_prefix.1 this
theorem ft_cut (s : ByteArray) (n : Nat) (hn : n + (ftL (s.data.toList.drop n)).size ≤ s.size) : s.extract n (n + (ftL (s.data.toList.drop n)).size) = ftL (s.data.toList.drop n) := by
  have hp := ft_prefix (s.data.toList.drop n)
  obtain ⟨t, ht⟩ : ∃ t, ftL (s.data.toList.drop n) = t := ⟨_, rfl⟩
  rw [ht] at hp hn ⊢
  obtain ⟨r, hr⟩ := hp
  rw [Lib.extract_eq, ← hr, Nat.add_sub_cancel_left, size_list, List.take_left]
def Chain (s : ByteArray) : Nat → List Tok → Prop
  | i, [] => i ≤ s.size
  | i, y :: r => i ≤ s.size ∧ ∃ n : Nat, i + skL false (s.data.toList.drop i) = n ∧ y.a = n ∧ IsTok y.t ∧ tkKi y.t = y.k ∧ tkVa y.t = y.v ∧ n + y.t.size ≤ s.size ∧ s.extract n (n + y.t.size) = y.t ∧ Chain s (n + y.t.size) r
theorem tkGo_chain (s : ByteArray) : ∀ (m i : Nat) (acc : List Tok), i ≤ s.size → ((tkGo s m i acc).f ≠ 0 ∧ (tkGo s m i acc).l = [] ∧ (tkGo s m i acc).g ≤ s.size) ∨ ((tkGo s m i acc).f = 0 ∧ ∃ r, (tkGo s m i acc).l = acc ++ r ∧ Chain s i r)
  | 0, i, acc, hi => .inl ⟨by show (5 : Int) ≠ 0; decide, rfl, by show (0 : Int) ≤ s.size; omega⟩
  | m + 1, i, acc, hi => by
    obtain ⟨n, hn⟩ : ∃ n, i + skL false (s.data.toList.drop i) = n := ⟨_, rfl⟩
    have hns : n ≤ s.size := by have := skL_le false (s.data.toList.drop i); rw [List.length_drop, ← size_list] at this; omega
    by_cases h : n = s.size
    · have e := go_stop (m := m) (acc := acc) rfl (tkA_end hn h)
      rw [e]
      exact .inr ⟨rfl, [], by simp, hi⟩
    · obtain ⟨t, ht⟩ : ∃ t, ftL (s.data.toList.drop n) = t := ⟨_, rfl⟩
      by_cases hf : tkFa t = 0
      · have e := tkA_tok hn h ht hf
        have htl : n + t.size ≤ s.size := by have := ftL_len (s.data.toList.drop n); rw [ht, List.length_drop, ← size_list] at this; omega
        by_cases ha : acc.length = 600
        · have q := go_full (m := m) rfl e (tkKi_ne hf) ha
          rw [q]
          exact .inl ⟨by show (5 : Int) ≠ 0; decide, rfl, by show (n : Int) ≤ s.size; omega⟩
        · rw [← go_more (m := m) rfl e (tkKi_ne hf) ha]
          rcases tkGo_chain s m (n + t.size) (acc ++ [⟨tkKi t, n, t, tkVa t⟩]) htl with q | ⟨q, r, hr, hc⟩
          · exact .inl q
          · refine .inr ⟨q, ⟨tkKi t, n, t, tkVa t⟩ :: r, by rw [hr]; simp, hi, n, hn, rfl, by rw [← ht]; exact ft_idem _ (by rw [ht]; exact hf), rfl, rfl, htl, ?_, hc⟩
            have := ft_cut s n (by rw [ht]; exact htl)
            rw [ht] at this
            exact this
      · have q := go_fault (m := m) (acc := acc) rfl (tkA_bad hn h ht hf) hf
        rw [q]
        exact .inl ⟨hf, rfl, by show (n : Int) ≤ s.size; omega⟩
/-- the ways of a text: too long, with a fault, a row of tokens -/
theorem tkT_ways (s : ByteArray) : (tkO s = false ∧ tkT s = ⟨[], 0, 0⟩) ∨ (s.size ≤ 4000 ∧ tkO s = true ∧ (tkT s).f ≠ 0 ∧ (tkT s).l = [] ∧ (tkT s).g ≤ s.size) ∨ (s.size ≤ 4000 ∧ tkO s = true ∧ (tkT s).f = 0 ∧ Chain s 0 (tkT s).l) := by
  by_cases h : s.size ≤ 4000
  · obtain ⟨e1, e2⟩ := tkT_yes h
    rw [e1, e2]
    unfold tkL
    rcases tkGo_chain s 601 0 [] (Nat.zero_le _) with q | ⟨q, r, hr, hc⟩
    · exact .inr (.inl ⟨h, rfl, q⟩)
    · refine .inr (.inr ⟨h, rfl, q, ?_⟩)
      rw [hr]
      simpa using hc
  · obtain ⟨e1, e2⟩ := tkT_no h
    exact .inl ⟨e2, e1⟩
/-- the ways of a token at an index -/
theorem taV_ways (s : ByteArray) (a : Int) :
    (taV s a = .tuple #[tokV 0 0 ⟨#[]⟩ 0, .int .i64 0, fauV 0 0, .bool false] ∧ ixB s a = false) ∨
    (∃ (f g : Int) (n : Nat), taV s a = .tuple #[tokV 0 0 ⟨#[]⟩ 0, .int .i64 n, fauV f g, .bool true] ∧ ixB s a = true ∧ skR s a = n) ∨
    (∃ (k v : Int) (n : Nat) (t : ByteArray), k ≠ 0 ∧ taV s a = .tuple #[tokV k n t v, .int .i64 ((n + t.size : Nat) : Int), fauV 0 0, .bool true] ∧ ixB s a = true ∧ skR s a = n ∧ n + t.size ≤ s.size ∧ s.extract n (n + t.size) = t) := by
  rcases Bool.eq_false_or_eq_true (ixB s a) with hx | hx
  · right
    have hsz : a.toNat ≤ s.size := by unfold ixB at hx; simp at hx; omega
    obtain ⟨n, hn⟩ : ∃ n, a.toNat + skL false (s.data.toList.drop a.toNat) = n := ⟨_, rfl⟩
    have hns : n ≤ s.size := by have := skL_le false (s.data.toList.drop a.toNat); rw [List.length_drop, ← size_list] at this; omega
    have hk : skR s a = n := by unfold skR; rw [if_pos hx, hn]
    unfold taV
    rw [if_pos hx]
    by_cases h : n = s.size
    · rw [tkA_end hn h]
      exact .inl ⟨0, 0, n, rfl, hx, hk⟩
    · obtain ⟨t, ht⟩ : ∃ t, ftL (s.data.toList.drop n) = t := ⟨_, rfl⟩
      by_cases hf : tkFa t = 0
      · have htl : n + t.size ≤ s.size := by have := ftL_len (s.data.toList.drop n); rw [ht, List.length_drop, ← size_list] at this; omega
        rw [tkA_tok hn h ht hf]
        have := ft_cut s n (by rw [ht]; exact htl)
        rw [ht] at this
        exact .inr ⟨_, _, n, t, tkKi_ne hf, rfl, hx, hk, htl, this⟩
      · rw [tkA_bad hn h ht hf]
        exact .inl ⟨_, _, n, rfl, hx, hk⟩
  · left
    unfold taV
    rw [if_neg (by rw [hx]; simp)]
    exact ⟨rfl, hx⟩
set_option maxHeartbeats 1600000 in
theorem qTokens_same (ga gb n ca cb : Nat) (l : List Tok) (w : World) (HA : Hid (ToksAt w ga l)) (HB : Hid (ToksAt w gb l)) (hn : Hid (l.length = n)) (hga : ga < w.heap.size) (hgb : gb < w.heap.size) (hm : n ≤ 1048576) :
    Calls Tryd.prog 13 #[.slice (some ⟨ga, 0, none⟩) n ca, .slice (some ⟨gb, 0, none⟩) n cb] w (SaysB w true) := by
  go_enter Tryd.func13, Tryd.ntmps13
  go_wp2_with fail
  go_loopw [13] (fun i wr => EqTRel w n i wr) (fun i _ => n - (intOf i).toNat)
  case atStart => exact ⟨0, Nat.zero_le _, rfl, Below.refl _ _⟩
  case round =>
    obtain ⟨k, hk, rfl, hb⟩ := hrel
    have HR := Lib.hid hb
    by_cases hlt : k < n
    · obtain ⟨x, hx⟩ : ∃ x, l.getD k tok0 = x := ⟨_, rfl⟩
      obtain ⟨a0, a1, a2, a3⟩ := (HA.out.below hb hga).four k (by rw [hn.out]; exact hlt) x hx
      obtain ⟨b0, b1, b2, b3⟩ := (HB.out.below hb hgb).four k (by rw [hn.out]; exact hlt) x hx
      clear hb hx
      obtain ⟨xk, xa, xt, xv⟩ := x
      go_wp2_with fail
      go_quiet (fail)
      go_wp2
      go_roundw
      case rel => exact ⟨k + 1, by omega, by go_num, below_drewN HR.out _⟩
      case measure => simp [intOf]; omega
    · go_wp2_with fail
      go_ret
      exact ⟨rfl, HR.out⟩
theorem qTokens_none (a b : Option Addr) (ca cb : Nat) (w : World) :
    Calls Tryd.prog 13 #[.slice a 0 ca, .slice b 0 cb] w (SaysB w true) := by
  go_enter Tryd.func13, Tryd.ntmps13
  go_wp2
  refine wp_loop_rounds 1 ?_
  rw [rounds_succ]
  go_wp2
  go_ret
  exact ⟨rfl, Below.refl _ _⟩
theorem qTokens_any (v v' : Value) (l : List Tok) (w : World) (h : Hid (SlT w v l)) (h' : Hid (SlT w v' l)) (hm : l.length ≤ 1048576) :
    Calls Tryd.prog 13 #[v, v'] w (SaysB w true) := by
  rcases h.out with ⟨hl, ad, c, hv⟩ | ⟨g, c, hv, ht, hg⟩
  · rcases h'.out with ⟨_, ad', c', hv'⟩ | ⟨g', c', hv', _, _⟩
    · rw [hv, hv']; exact qTokens_none _ _ _ _ w
    · rw [hv, hv', hl]; exact qTokens_none _ _ _ _ w
  · rcases h'.out with ⟨hl, ad', c', hv'⟩ | ⟨g', c', hv', ht', hg'⟩
    · rw [hv, hv', hl]; exact qTokens_none _ _ _ _ w
    · rw [hv, hv']; exact qTokens_same g g' l.length c c' l w ht ht' rfl hg hg' hm
end Go.Proofs.YtdmcgjohpnojkaaDoor
