import Derived.Test.YtmmofchfafnkcaaGreatDoorPkj
import Derived.Deep.QuietTactic
import Derived.BigQuiet
import Derived.Lib.SmallJoins
import Derived.Test.YtmmofchfafnkcaaGreatDoorPki
import Derived.Deep.Slices
import Derived.Test.YtmmofchfafnkcaaGreatDoorPkh
import Derived.Deep.OwnRows
/- The tokens of a text, joined by single blanks and read again: plain facts. -/
namespace Go.Proofs.YtmmofchfafnkcaaGreatDoor
set_option maxRecDepth 100000
open Go.RowKit
set_option linter.unusedVariables false

/-- a text that is a token -/
def IsTok (t : ByteArray) : Prop := tkFa t = 0 ∧ ftL t.data.toList = t
theorem tok_ne {t : ByteArray} (h : IsTok t) : 0 < t.size := by
  rcases Nat.eq_zero_or_pos t.size with hz | hz
  · have := h.1
    rw [tk_nil t hz] at this
    cases this
  · exact hz
theorem run_all : ∀ (l : List UInt8), runN l = l.length → ∀ c ∈ l, mkB (c.toNat : Int) = true
  | [], _, c, hc => by simp at hc
  | d :: r, h, c, hc => by
    unfold runN at h
    by_cases hd : mkB (d.toNat : Int) = true
    · rw [if_pos hd, List.length_cons] at h
      rcases List.mem_cons.1 hc with e | e
      · rw [e]; exact hd
      · exact run_all r (by omega) c e
    · rw [if_neg hd, List.length_cons] at h
      omega
theorem run_app : ∀ (l rest : List UInt8), (∀ c ∈ l, mkB (c.toNat : Int) = true) → runN (l ++ rest) = l.length + runN rest
  | [], rest, _ => by simp
  | c :: r, rest, h => by
    rw [List.cons_append, runN, if_pos (h c (by simp)), run_app r rest (fun d hd => h d (by simp [hd])), List.length_cons]
    omega
theorem tok_cases {t : ByteArray} (h : IsTok t) : t ∈ sgA ∨ ∀ c ∈ t.data.toList, mkB (c.toNat : Int) = true := by
  have hf := h.2
  unfold ftL at hf
  by_cases hs : sgOf t.data.toList = ⟨#[]⟩
  · rw [if_pos hs] at hf
    refine .inr (run_all _ ?_)
    have e := congrArg (fun b : ByteArray => b.data.toList.length) hf
    simp only [List.length_take] at e
    have := runN_le t.data.toList
    omega
  · rw [if_neg hs] at hf
    rcases pfxOf_in t.data.toList sgA with q | q
    · exact absurd q hs
    · left
      rw [← hf]
      exact q
def Stop (rest : List UInt8) : Prop := rest = [] ∨ ∃ r, rest = 32 :: r
theorem ft_app {t : ByteArray} (h : IsTok t) {rest : List UInt8} (hr : Stop rest) : ftL (t.data.toList ++ rest) = t := by
  rcases tok_cases h with hs | hm
  · simp only [sgA, List.mem_cons, List.not_mem_nil, or_false] at hs
    rcases hs with rfl | rfl | rfl | rfl | rfl | rfl <;> simp [ftL, sgOf, sgA, pfxOf, Lib.hasPrefix, List.isPrefixOf]
  · have hz := tok_ne h
    rw [size_list] at hz
    obtain ⟨c, r, hl⟩ : ∃ c r, t.data.toList = c :: r := by
      cases hq : t.data.toList with
      | nil => rw [hq] at hz; simp at hz
      | cons c r => exact ⟨c, r, rfl⟩
    have hc : mkB (c.toNat : Int) = true := hm c (by rw [hl]; simp)
    have h0 : runN rest = 0 := by
      rcases hr with rfl | ⟨r', rfl⟩
      · rfl
      · rw [runN, if_neg (by decide)]
    have hn := run_app t.data.toList rest hm
    rw [h0, Nat.add_zero] at hn
    unfold ftL
    have hsg : sgOf (t.data.toList ++ rest) = ⟨#[]⟩ := by rw [hl, List.cons_append]; exact sg_none _ _ hc
    rw [if_pos hsg, hn, List.take_left]
theorem sk_tok {t : ByteArray} (h : IsTok t) (rest : List UInt8) : skL false (t.data.toList ++ rest) = 0 := by
  have key : ∀ (c : UInt8) (r : List UInt8), c.toNat ≠ 10 → c.toNat ≠ 32 → c.toNat ≠ 9 → c.toNat ≠ 92 → c.toNat ≠ 35 → skL false (c :: r) = 0 := by
    intro c r h1 h2 h3 h4 h5
    rw [skL, if_neg h1, if_neg (by simp), if_neg (by omega), if_neg h4, if_neg h5]
  rcases tok_cases h with hs | hm
  · simp only [sgA, List.mem_cons, List.not_mem_nil, or_false] at hs
    rcases hs with rfl | rfl | rfl | rfl | rfl | rfl <;> exact key _ _ (by decide) (by decide) (by decide) (by decide) (by decide)
  · have hz := tok_ne h
    rw [size_list] at hz
    obtain ⟨c, r, hl⟩ : ∃ c r, t.data.toList = c :: r := by
      cases hq : t.data.toList with
      | nil => rw [hq] at hz; simp at hz
      | cons c r => exact ⟨c, r, rfl⟩
    have hc : mkB (c.toNat : Int) = true := hm c (by rw [hl]; simp)
    rw [hl, List.cons_append]
    unfold mkB letB digB at hc
    simp only [Bool.or_eq_true, Bool.and_eq_true, decide_eq_true_eq] at hc
    exact key _ _ (by omega) (by omega) (by omega) (by omega) (by omega)
theorem sk_sp {t : ByteArray} (h : IsTok t) (rest : List UInt8) : skL false (32 :: (t.data.toList ++ rest)) = 1 := by
  rw [skL, if_neg (by decide), if_neg (by simp), if_pos (by decide), sk_tok h rest]
/-- the tokens that are read again behind an index -/
def again : List ByteArray → Nat → List Tok
  | [], _ => []
  | t :: r, i => ⟨tkKi t, ((i + 1 : Nat) : Int), t, tkVa t⟩ :: again r (i + 1 + t.size)
def jT (ts : List ByteArray) : List UInt8 := Lib.joinTail [32] (ts.map fun t => t.data.toList)
theorem jT_nil : jT [] = [] := rfl
theorem jT_cons (t : ByteArray) (r : List ByteArray) : jT (t :: r) = 32 :: (t.data.toList ++ jT r) := by
  unfold jT Lib.joinTail
  simp
theorem jT_stop (ts : List ByteArray) : Stop (jT ts) := by
  cases ts with
  | nil => exact .inl rfl
  | cons t r => exact .inr ⟨_, jT_cons t r⟩
theorem tkA_here {s t : ByteArray} {i n : Nat} {rest : List UInt8} (h : IsTok t) (hr : Stop rest) (hn : i + skL false (s.data.toList.drop i) = n) (hd : s.data.toList.drop n = t.data.toList ++ rest) : tkA s i = ⟨tkKi t, n, t, tkVa t, n + t.size, 0, 0⟩ ∧ n + t.size ≤ s.size := by
  have hl := congrArg List.length hd
  rw [List.length_drop, List.length_append, ← size_list, ← size_list] at hl
  have hz := tok_ne h
  exact ⟨tkA_tok hn (by omega) (by rw [hd]; exact ft_app h hr) h.1, by omega⟩
theorem drop_tok {s t : ByteArray} {n : Nat} {rest : List UInt8} (hd : s.data.toList.drop n = t.data.toList ++ rest) : s.data.toList.drop (n + t.size) = rest := by
  rw [← List.drop_drop, hd, size_list, List.drop_left]
theorem go_again (s : ByteArray) : ∀ (ts : List ByteArray) (m i : Nat) (acc : List Tok), (∀ t ∈ ts, IsTok t) → i ≤ s.size → s.data.toList.drop i = jT ts → ts.length < m → acc.length + ts.length ≤ 600 → tkGo s m i acc = ⟨acc ++ again ts i, 0, 0⟩
  | [], m, i, acc, _, hi, hd, hm, ha => by
    obtain ⟨m, rfl⟩ : ∃ k, m = k + 1 := ⟨m - 1, by simp at hm; omega⟩
    have hl := congrArg List.length hd
    rw [jT_nil, List.length_drop, ← size_list] at hl
    have e := tkA_end (s := s) (i := i) (n := i) (by rw [hd, jT_nil]; rfl) (by simp at hl; omega)
    rw [go_stop rfl e]
    simp [again]
  | t :: r, m, i, acc, ht, hi, hd, hm, ha => by
    obtain ⟨m, rfl⟩ : ∃ k, m = k + 1 := ⟨m - 1, by simp at hm; omega⟩
    have h := ht t (by simp)
    rw [jT_cons] at hd
    have hd1 : s.data.toList.drop (i + 1) = t.data.toList ++ jT r := by rw [← List.drop_drop, hd]; rfl
    obtain ⟨e, hz⟩ := tkA_here (s := s) (i := i) (n := i + 1) h (jT_stop r) (by rw [hd, sk_sp h]) hd1
    rw [← go_more rfl e (tkKi_ne h.1) (by simp at ha; omega)]
    rw [go_again s r m (i + 1 + t.size) _ (fun x hx => ht x (by simp [hx])) hz (drop_tok hd1) (by simp at hm; omega) (by simp at ha ⊢; omega)]
    simp [again]
/-- the tokens of texts that are joined by single blanks -/
def anew : List ByteArray → List Tok
  | [] => []
  | t :: r => ⟨tkKi t, 0, t, tkVa t⟩ :: again r t.size
theorem tkL_anew (ts : List ByteArray) (s : ByteArray) (ht : ∀ t ∈ ts, IsTok t) (hs : s.data.toList = Lib.join (ts.map fun t => t.data.toList) [32]) (hn : ts.length ≤ 600) : tkL s = ⟨anew ts, 0, 0⟩ := by
  unfold tkL
  cases ts with
  | nil =>
    have := go_again s [] 601 0 [] (by simp) (Nat.zero_le _) (by rw [List.drop_zero, hs]; rfl) (by simp) (by simp)
    exact this
  | cons t r =>
    have h := ht t (by simp)
    rw [List.map_cons, Lib.join_cons] at hs
    have hd : s.data.toList.drop 0 = t.data.toList ++ jT r := by rw [List.drop_zero, hs]; rfl
    obtain ⟨e, hz⟩ := tkA_here (s := s) (i := 0) (n := 0) h (jT_stop r) (by rw [hd, sk_tok h]) hd
    rw [← go_more rfl e (tkKi_ne h.1) (by simp)]
    rw [go_again s r 600 (0 + t.size) _ (fun x hx => ht x (by simp [hx])) hz (drop_tok hd) (by simp at hn; omega) (by simp at hn ⊢; omega)]
    simp [anew]
/-- a token that a text can have -/
theorem good_tok {x : Tok} (h : goodT x.k x.a x.t x.v = true) : IsTok x.t ∧ tkKi x.t = x.k ∧ tkVa x.t = x.v := by
  unfold goodT at h
  simp only [Bool.and_eq_true, decide_eq_true_eq, beq_iff_eq] at h
  obtain ⟨_, h1, h2, h3, h4⟩ := h
  have e : ftL x.t.data.toList = x.t := by
    rw [ByteArray.toList_eq, ByteArray.toList_eq] at h3
    exact ByteArray.ext (Array.toList_inj.1 h3)
  rw [e] at h1 h2 h4
  exact ⟨⟨h1, e⟩, h2, h4⟩
theorem tok_good {t : ByteArray} (h : IsTok t) {a : Int} (ha : 0 ≤ a ∧ a ≤ 4000) : goodT (tkKi t) a t (tkVa t) = true := by
  unfold goodT
  rw [h.2, h.1, inB_true ha.1 ha.2]
  simp
theorem alG_all : ∀ (l : List Tok), alG l = true ↔ ∀ x ∈ l, goodT x.k x.a x.t x.v = true
  | [] => by simp [alG]
  | x :: r => by rw [alG, Bool.and_eq_true, alG_all r]; simp
theorem again_texts : ∀ (ts : List ByteArray) (i : Nat), (again ts i).map (fun x => x.t) = ts
  | [], _ => rfl
  | t :: r, i => by rw [again, List.map_cons, again_texts r]
theorem anew_texts (ts : List ByteArray) : (anew ts).map (fun x => x.t) = ts := by
  cases ts with
  | nil => rfl
  | cons t r => rw [anew, List.map_cons, again_texts]
theorem again_good (N : Nat) : ∀ (ts : List ByteArray) (i : Nat), (∀ t ∈ ts, IsTok t) → i + (jT ts).length ≤ N → N ≤ 4000 → alG (again ts i) = true
  | [], _, _, _, _ => rfl
  | t :: r, i, h, hn, hN => by
    rw [jT_cons, List.length_cons, List.length_append, ← size_list] at hn
    rw [again, alG, tok_good (h t (by simp)) ⟨by show (0 : Int) ≤ ((i + 1 : Nat) : Int); omega, by show ((i + 1 : Nat) : Int) ≤ 4000; omega⟩, again_good N r (i + 1 + t.size) (fun x hx => h x (by simp [hx])) (by omega) hN]
    rfl
theorem same_self (x : Tok) (h : tkKi x.t = x.k ∧ tkVa x.t = x.v) (a : Int) : sameB x ⟨tkKi x.t, a, x.t, tkVa x.t⟩ = true := by
  unfold sameB
  simp [h.1, h.2]
theorem again_same : ∀ (l : List Tok) (i : Nat), (∀ x ∈ l, tkKi x.t = x.k ∧ tkVa x.t = x.v) → sameL l (again (l.map fun x => x.t) i) = true
  | [], _, _ => rfl
  | x :: r, i, h => by
    rw [List.map_cons, again, sameL, same_self x (h x (by simp)), again_same r _ (fun y hy => h y (by simp [hy]))]
    rfl
theorem anew_same (l : List Tok) (h : ∀ x ∈ l, tkKi x.t = x.k ∧ tkVa x.t = x.v) : sameL l (anew (l.map fun x => x.t)) = true := by
  cases l with
  | nil => rfl
  | cons x r =>
    rw [List.map_cons, anew, sameL, same_self x (h x (by simp)), again_same r _ (fun y hy => h y (by simp [hy]))]
    rfl
theorem jS_list (l : List Tok) : (jS l l.length).data.toList = Lib.join ((l.map fun x => x.t).map fun t => t.data.toList) [32] := by
  unfold jS jL
  rw [List.take_length, List.map_map]
  simp
  rfl
/-- a spaced text has the tokens of its text, and is its own spaced text -/
theorem sp_again {s : ByteArray} (h : spO s = true) : flO (spR s) = true ∧ smR s (spR s) = true ∧ spO (spR s) = true ∧ spR (spR s) = spR s := by
  have hfl : flO s = true := by unfold spO at h; exact (Bool.and_eq_true_iff.1 h).1
  obtain ⟨e1, e2⟩ := sp_yes hfl
  rw [e1] at h
  obtain ⟨l, hl⟩ : ∃ l, (tkT s).l = l := ⟨_, rfl⟩
  rw [hl] at h e2
  have hj : jnR l = jS l l.length := by unfold jnR; rw [if_pos h]
  rw [e2, hj]
  obtain ⟨J, hJ⟩ : ∃ J, jS l l.length = J := ⟨_, rfl⟩
  have hJl := jS_list l
  unfold jnO lsG at h
  simp only [Bool.and_eq_true, decide_eq_true_eq] at h
  obtain ⟨⟨hg, h600⟩, h4000⟩ := h
  have hall := (alG_all l).1 hg
  have hts : ∀ t ∈ l.map (fun x => x.t), IsTok t := fun t ht => by
    obtain ⟨x, hx, rfl⟩ := List.mem_map.1 ht
    exact (good_tok (hall x hx)).1
  rw [hJ] at hJl h4000 ⊢
  have hT := tkL_anew (l.map fun x => x.t) J hts hJl (by simpa using h600)
  have hTT : tkT J = ⟨anew (l.map fun x => x.t), 0, 0⟩ := by unfold tkT; rw [if_pos h4000]; exact hT
  have hF : flO J = true := by unfold flO tkO; rw [hTT, decide_eq_true h4000]; rfl
  have hS : smR s J = true := by
    unfold smR smO
    rw [hfl, hF, hl, hTT, anew_same l (fun x hx => (good_tok (hall x hx)).2)]
    rfl
  have hlen : (anew (l.map fun x => x.t)).length = l.length := by
    have := congrArg List.length (anew_texts (l.map fun x => x.t))
    simpa using this
  have hj2 : jS (anew (l.map fun x => x.t)) (anew (l.map fun x => x.t)).length = J := by
    have q := jS_list (anew (l.map fun x => x.t))
    rw [anew_texts, ← hJl] at q
    exact ByteArray.ext (Array.toList_inj.1 q)
  have hA : alG (anew (l.map fun x => x.t)) = true := by
    cases hc : l.map (fun x => x.t) with
    | nil => rfl
    | cons t r =>
      rw [hc] at hJl hts
      rw [List.map_cons, Lib.join_cons] at hJl
      have hz := congrArg List.length hJl
      rw [List.length_append, ← size_list, ← size_list] at hz
      rw [anew, alG, tok_good (hts t (by simp)) ⟨by show (0 : Int) ≤ 0; omega, by show (0 : Int) ≤ 4000; omega⟩, again_good J.size r t.size (fun x hx => hts x (by simp [hx])) (by unfold jT; omega) h4000]
      rfl
  have hO : jnO (anew (l.map fun x => x.t)) = true := by
    unfold jnO lsG
    rw [hA, hlen]
    rw [hlen] at hj2
    rw [hj2, decide_eq_true h600, decide_eq_true h4000]
    rfl
  obtain ⟨g1, g2⟩ := sp_yes hF
  refine ⟨hF, hS, by rw [g1, hTT]; exact hO, ?_⟩
  rw [g2, hTT]
  unfold jnR
  rw [if_pos hO, hj2]
/-! The tokens of a text lie in it one after the other. -/
theorem run_take : ∀ (l : List UInt8), ∀ c ∈ l.take (runN l), mkB (c.toNat : Int) = true
  | [], c, h => by simp at h
  | d :: r, c, h => by
    unfold runN at h
    by_cases hd : mkB (d.toNat : Int) = true
    · rw [if_pos hd, List.take_succ_cons] at h
      rcases List.mem_cons.1 h with e | e
      · rw [e]; exact hd
      · exact run_take r c e
    · rw [if_neg hd] at h
      simp at h
theorem ft_idem (l : List UInt8) (h : tkFa (ftL l) = 0) : IsTok (ftL l) := by
  refine ⟨h, ?_⟩
  by_cases hs : sgOf l = ⟨#[]⟩
  · have e : ftL l = ⟨(l.take (runN l)).toArray⟩ := by unfold ftL; rw [if_pos hs]
    rw [e] at h ⊢
    have hl : (⟨(l.take (runN l)).toArray⟩ : ByteArray).data.toList = l.take (runN l) := by simp
    have hm := run_take l
    obtain ⟨m, hmm⟩ : ∃ m, l.take (runN l) = m := ⟨_, rfl⟩
    rw [hmm] at h hl hm ⊢
    rw [hl]
    cases m with
    | nil => exact absurd h (by decide)
    | cons c r =>
      have hn := run_app (c :: r) [] hm
      rw [List.append_nil] at hn
      have h0 : runN [] = 0 := rfl
      rw [h0, Nat.add_zero] at hn
      unfold ftL
      rw [if_pos (sg_none _ _ (hm c (by simp))), hn, List.take_length]
  · have e : ftL l = sgOf l := by unfold ftL; rw [if_neg hs]
    rw [e]
    rcases pfxOf_in l sgA with q | q
    · exact absurd q hs
    · have q' : sgOf l ∈ sgA := q
      generalize sgOf l = t at q'
      simp only [sgA, List.mem_cons, List.not_mem_nil, or_false] at q'
      rcases q' with rfl | rfl | rfl | rfl | rfl | rfl <;> decide
theorem ft_prefix (l : List UInt8) : (ftL l).data.toList <+: l := by
  unfold ftL
  split
  · show (⟨(l.take (runN l)).toArray⟩ : ByteArray).data.toList <+: l
    rw [show (⟨(l.take (runN l)).toArray⟩ : ByteArray).data.toList = l.take (runN l) by simp]
    exact List.take_prefix _ _
  · have := pfxOf_pfx l sgA
    unfold Lib.hasPrefix at this
    exact List.isPrefixOf_iff_prefix.1 this
theorem ft_cut (s : ByteArray) (n : Nat) (hn : n + (ftL (s.data.toList.drop n)).size ≤ s.size) : s.extract n (n + (ftL (s.data.toList.drop n)).size) = ftL (s.data.toList.drop n) := by
  have hp := ft_prefix (s.data.toList.drop n)
  obtain ⟨t, ht⟩ : ∃ t, ftL (s.data.toList.drop n) = t := ⟨_, rfl⟩
  rw [ht] at hp hn ⊢
  obtain ⟨r, hr⟩ := hp
  rw [Lib.extract_eq, ← hr, Nat.add_sub_cancel_left, size_list, List.take_left]
def Chain (s : ByteArray) : Nat → List Tok → Prop
  | i, [] => i ≤ s.size
  | i, y :: r => i ≤ s.size ∧ ∃ n : Nat, i + skL false (s.data.toList.drop i) = n ∧ y.a = n ∧ IsTok y.t ∧ tkKi y.t = y.k ∧ tkVa y.t = y.v ∧ n + y.t.size ≤ s.size ∧ s.extract n (n + y.t.size) = y.t ∧ Chain s (n + y.t.size) r
theorem tkGo_chain (s : ByteArray) : ∀ (m i : Nat) (acc : List Tok), i ≤ s.size → ((tkGo s m i acc).f ≠ 0 ∧ (tkGo s m i acc).l = [] ∧ (tkGo s m i acc).g ≤ s.size) ∨ ((tkGo s m i acc).f = 0 ∧ ∃ r, (tkGo s m i acc).l = acc ++ r ∧ Chain s i r)
  | 0, i, acc, hi => .inl ⟨by show (5 : Int) ≠ 0; decide, rfl, by show (0 : Int) ≤ s.size; omega⟩
  | m + 1, i, acc, hi => by
    obtain ⟨n, hn⟩ : ∃ n, i + skL false (s.data.toList.drop i) = n := ⟨_, rfl⟩
    have hns : n ≤ s.size := by have := skL_le false (s.data.toList.drop i); rw [List.length_drop, ← size_list] at this; omega
    by_cases h : n = s.size
    · have e := go_stop (m := m) (acc := acc) rfl (tkA_end hn h)
      rw [e]
      exact .inr ⟨rfl, [], by simp, hi⟩
    · obtain ⟨t, ht⟩ : ∃ t, ftL (s.data.toList.drop n) = t := ⟨_, rfl⟩
      by_cases hf : tkFa t = 0
      · have e := tkA_tok hn h ht hf
        have htl : n + t.size ≤ s.size := by have := ftL_len (s.data.toList.drop n); rw [ht, List.length_drop, ← size_list] at this; omega
        by_cases ha : acc.length = 600
        · have q := go_full (m := m) rfl e (tkKi_ne hf) ha
          rw [q]
          exact .inl ⟨by show (5 : Int) ≠ 0; decide, rfl, by show (n : Int) ≤ s.size; omega⟩
        · rw [← go_more (m := m) rfl e (tkKi_ne hf) ha]
          rcases tkGo_chain s m (n + t.size) (acc ++ [⟨tkKi t, n, t, tkVa t⟩]) htl with q | ⟨q, r, hr, hc⟩
          · exact .inl q
          · refine .inr ⟨q, ⟨tkKi t, n, t, tkVa t⟩ :: r, by rw [hr]; simp, hi, n, hn, rfl, by rw [← ht]; exact ft_idem _ (by rw [ht]; exact hf), rfl, rfl, htl, ?_, hc⟩
            have := ft_cut s n (by rw [ht]; exact htl)
            rw [ht] at this
            exact this
      · have q := go_fault (m := m) (acc := acc) rfl (tkA_bad hn h ht hf) hf
        rw [q]
        exact .inl ⟨hf, rfl, by show (n : Int) ≤ s.size; omega⟩
/-- the ways of a text: too long, with a fault, a row of tokens -/
theorem tkT_ways (s : ByteArray) : (tkO s = false ∧ tkT s = ⟨[], 0, 0⟩) ∨ (s.size ≤ 4000 ∧ tkO s = true ∧ (tkT s).f ≠ 0 ∧ (tkT s).l = [] ∧ (tkT s).g ≤ s.size) ∨ (s.size ≤ 4000 ∧ tkO s = true ∧ (tkT s).f = 0 ∧ Chain s 0 (tkT s).l) := by
  by_cases h : s.size ≤ 4000
  · obtain ⟨e1, e2⟩ := tkT_yes h
    rw [e1, e2]
    unfold tkL
    rcases tkGo_chain s 601 0 [] (Nat.zero_le _) with q | ⟨q, r, hr, hc⟩
    · exact .inr (.inl ⟨h, rfl, q⟩)
    · refine .inr (.inr ⟨h, rfl, q, ?_⟩)
      rw [hr]
      simpa using hc
  · obtain ⟨e1, e2⟩ := tkT_no h
    exact .inl ⟨e2, e1⟩
/-- the ways of a token at an index -/
theorem taV_ways (s : ByteArray) (a : Int) :
    (taV s a = .tuple #[tokV 0 0 ⟨#[]⟩ 0, .int .i64 0, fauV 0 0, .bool false] ∧ ixB s a = false) ∨
    (∃ (f g : Int) (n : Nat), taV s a = .tuple #[tokV 0 0 ⟨#[]⟩ 0, .int .i64 n, fauV f g, .bool true] ∧ ixB s a = true ∧ skR s a = n) ∨
    (∃ (k v : Int) (n : Nat) (t : ByteArray), k ≠ 0 ∧ taV s a = .tuple #[tokV k n t v, .int .i64 ((n + t.size : Nat) : Int), fauV 0 0, .bool true] ∧ ixB s a = true ∧ skR s a = n ∧ n + t.size ≤ s.size ∧ s.extract n (n + t.size) = t) := by
  rcases Bool.eq_false_or_eq_true (ixB s a) with hx | hx
  · right
    have hsz : a.toNat ≤ s.size := by unfold ixB at hx; simp at hx; omega
    obtain ⟨n, hn⟩ : ∃ n, a.toNat + skL false (s.data.toList.drop a.toNat) = n := ⟨_, rfl⟩
    have hns : n ≤ s.size := by have := skL_le false (s.data.toList.drop a.toNat); rw [List.length_drop, ← size_list] at this; omega
    have hk : skR s a = n := by unfold skR; rw [if_pos hx, hn]
    unfold taV
    rw [if_pos hx]
    by_cases h : n = s.size
    · rw [tkA_end hn h]
      exact .inl ⟨0, 0, n, rfl, hx, hk⟩
    · obtain ⟨t, ht⟩ : ∃ t, ftL (s.data.toList.drop n) = t := ⟨_, rfl⟩
      by_cases hf : tkFa t = 0
      · have htl : n + t.size ≤ s.size := by have := ftL_len (s.data.toList.drop n); rw [ht, List.length_drop, ← size_list] at this; omega
        rw [tkA_tok hn h ht hf]
        have := ft_cut s n (by rw [ht]; exact htl)
        rw [ht] at this
        exact .inr ⟨_, _, n, t, tkKi_ne hf, rfl, hx, hk, htl, this⟩
      · rw [tkA_bad hn h ht hf]
        exact .inl ⟨_, _, n, rfl, hx, hk⟩
  · left
    unfold taV
    rw [if_neg (by rw [hx]; simp)]
    exact ⟨rfl, hx⟩
set_option maxHeartbeats 1600000 in
theorem qTokens_same (ga gb n ca cb : Nat) (l : List Tok) (w : World) (HA : Hid (ToksAt w ga l)) (HB : Hid (ToksAt w gb l)) (hn : Hid (l.length = n)) (hga : ga < w.heap.size) (hgb : gb < w.heap.size) (hm : n ≤ 1048576) :
    Calls Tryz.prog 27 #[.slice (some ⟨ga, 0, none⟩) n ca, .slice (some ⟨gb, 0, none⟩) n cb] w (SaysB w true) := by
  go_enter Tryz.func27, Tryz.ntmps27
  go_wp2_with fail
  go_loopw [13] (fun i wr => EqTRel w n i wr) (fun i _ => n - (intOf i).toNat)
  case atStart => exact ⟨0, Nat.zero_le _, rfl, Below.refl _ _⟩
  case round =>
    obtain ⟨k, hk, rfl, hb⟩ := hrel
    have HR := Lib.hid hb
    by_cases hlt : k < n
    · obtain ⟨x, hx⟩ : ∃ x, l.getD k tok0 = x := ⟨_, rfl⟩
      obtain ⟨a0, a1, a2, a3⟩ := (HA.out.below hb hga).four k (by rw [hn.out]; exact hlt) x hx
      obtain ⟨b0, b1, b2, b3⟩ := (HB.out.below hb hgb).four k (by rw [hn.out]; exact hlt) x hx
      clear hb hx
      obtain ⟨xk, xa, xt, xv⟩ := x
      go_wp2_with fail
      go_quiet (fail)
      go_wp2
      go_roundw
      case rel => exact ⟨k + 1, by omega, by go_num, below_drewN HR.out _⟩
      case measure => simp [intOf]; omega
    · go_wp2_with fail
      go_ret
      exact ⟨rfl, HR.out⟩
theorem qTokens_none (a b : Option Addr) (ca cb : Nat) (w : World) :
    Calls Tryz.prog 27 #[.slice a 0 ca, .slice b 0 cb] w (SaysB w true) := by
  go_enter Tryz.func27, Tryz.ntmps27
  go_wp2
  refine wp_loop_rounds 1 ?_
  rw [rounds_succ]
  go_wp2
  go_ret
  exact ⟨rfl, Below.refl _ _⟩
theorem qTokens_any (v v' : Value) (l : List Tok) (w : World) (h : Hid (SlT w v l)) (h' : Hid (SlT w v' l)) (hm : l.length ≤ 1048576) :
    Calls Tryz.prog 27 #[v, v'] w (SaysB w true) := by
  rcases h.out with ⟨hl, ad, c, hv⟩ | ⟨g, c, hv, ht, hg⟩
  · rcases h'.out with ⟨_, ad', c', hv'⟩ | ⟨g', c', hv', _, _⟩
    · rw [hv, hv']; exact qTokens_none _ _ _ _ w
    · rw [hv, hv', hl]; exact qTokens_none _ _ _ _ w
  · rcases h'.out with ⟨hl, ad', c', hv'⟩ | ⟨g', c', hv', ht', hg'⟩
    · rw [hv, hv', hl]; exact qTokens_none _ _ _ _ w
    · rw [hv, hv']; exact qTokens_same g g' l.length c c' l w ht ht' rfl hg hg' hm
end Go.Proofs.YtmmofchfafnkcaaGreatDoor

/- Arguments that are tokens: opened, shut, measured and made tokens of the program. -/
namespace Go.Proofs.YtmmofchfafnkcaaGreatDoor
set_option maxRecDepth 100000
open Go.RowKit Go.Joins Go.ChangeShapes Go.WideShapes Go.Deep
set_option linter.unusedVariables false

section
variable {H : Type} {enc : TypeId × Value → H} {w : World} {base : Nat} {spare : Nat → Bool} {held : Bool}
end
/-- what is left of a measure -/
def lessT (n : Int) (s : ByteArray) : Int := if n - s.size < 0 then -1 else n - s.size
end Go.Proofs.YtmmofchfafnkcaaGreatDoor

/- The texts of good tokens are short; CanTouch: contracts, program and model. -/
namespace Go.Proofs.YtmmofchfafnkcaaGreatDoor
set_option maxRecDepth 100000
open Go.RowKit
set_option linter.unusedVariables false

theorem rdN_len (b lim : Int) (hb : 2 ≤ b) : ∀ (l : List UInt8) (n v : Int), 1 ≤ n → n ≤ lim → rdN b lim l n = Option.some v → n * 2 ^ l.length ≤ lim
  | [], n, v, h1, h2, _ => by simpa using h2
  | c :: r, n, v, h1, h2, e => by
    rw [rdN] at e
    split at e
    · rename_i g
      have hnb : n * 2 ≤ n * b := Int.mul_le_mul_of_nonneg_left hb (by omega)
      have hn' : n * 2 ≤ n * b + dg b (c.toNat : Int) := by omega
      have ih := rdN_len b lim hb r _ v (by omega) g.2 e
      have hp : (0 : Int) ≤ 2 ^ r.length := Int.pow_nonneg (by decide)
      have h3 := Int.mul_le_mul_of_nonneg_right hn' hp
      rw [List.length_cons, Int.pow_succ, Int.mul_comm (2 ^ r.length) 2, ← Int.mul_assoc]
      omega
    · cases e
theorem dg_pos (b c : Int) (h : 0 ≤ dg b c) (hc : c ≠ 48) : 1 ≤ dg b c := by
  unfold dg at h ⊢
  split
  · rename_i g
    rw [if_pos g] at h
    unfold dv at h ⊢
    split
    · omega
    · split
      · omega
      · rename_i g1 g2; rw [if_neg g1, if_neg g2] at h; omega
  · rename_i g; rw [if_neg g] at h; omega
theorem two_pow_big {k : Nat} (h : 30 ≤ k) : (1073741824 : Int) ≤ 2 ^ k := by
  have q : 2 ^ 30 ≤ 2 ^ k := Nat.pow_le_pow_right (by decide) h
  have q2 : ((2 ^ 30 : Nat) : Int) ≤ ((2 ^ k : Nat) : Int) := by exact_mod_cast q
  simpa using q2
theorem rdT_len (b lim : Int) (hb : 2 ≤ b) (hl : lim ≤ 1000000000) (l : List UInt8) (v : Int) (h : rdT b lim l = Option.some v) : l.length ≤ 40 := by
  unfold rdT at h
  split at h
  · cases h
  · rename_i hn
    match l, hn, h with
    | [], hn, _ => exact absurd (Or.inl rfl) hn
    | [c], _, _ => simp
    | c :: c2 :: r, hn, h =>
      have hc : c ≠ 48 := fun e => hn (.inr ⟨by simp, by rw [e]; rfl⟩)
      rw [rdN] at h
      split at h
      · rename_i g
        have hd : 1 ≤ 0 * b + dg b (c.toNat : Int) := by
          have hcn : c.toNat ≠ 48 := fun e => hc (UInt8.toNat_inj.1 (by rw [e]; rfl))
          have := dg_pos b (c.toNat : Int) g.1 (by omega)
          omega
        have q := rdN_len b lim hb (c2 :: r) _ v hd g.2 h
        rcases Nat.lt_or_ge (c2 :: r).length 30 with h30 | h30
        · simp at h30 ⊢; omega
        · have h4 := two_pow_big h30
          have h5 : 1 * 2 ^ (c2 :: r).length ≤ (0 * b + dg b (c.toNat : Int)) * 2 ^ (c2 :: r).length := Int.mul_le_mul_of_nonneg_right hd (Int.pow_nonneg (by decide))
          omega
      · cases h
theorem initL_len {l : List UInt8} (h : (initL l).length ≤ 40) : l.length ≤ 41 := by
  unfold initL at h
  rw [List.length_take] at h
  omega
theorem unitN_has {o : Option Int} {f v : Int} (h : unitN o f = Option.some v) : ∃ n, o = Option.some n := by
  cases o with
  | none => cases h
  | some n => exact ⟨n, rfl⟩
theorem rnr_len {l : List UInt8} {v : Int} (h : rnr l = Option.some v) : l.length ≤ 50 := by
  rcases Bool.eq_false_or_eq_true (Lib.hasSuffix l [109]) with h1 | h1
  · rw [rnr_m h1] at h
    obtain ⟨n, hn⟩ := unitN_has h
    have := initL_len (rdT_len 10 1000 (by decide) (by decide) _ n hn)
    omega
  · rcases Bool.eq_false_or_eq_true (Lib.hasSuffix l [107]) with h2 | h2
    · rw [rnr_k h1 h2] at h
      obtain ⟨n, hn⟩ := unitN_has h
      have := initL_len (rdT_len 10 1000000 (by decide) (by decide) _ n hn)
      omega
    · rw [rnr_n h1 h2] at h
      have := rdT_len 10 1000000000 (by decide) (by decide) _ v h
      omega
theorem ray_len {l : List UInt8} {v : Int} (h : ray l = Option.some v) : l.length ≤ 50 := by
  rcases Bool.eq_false_or_eq_true (Lib.hasPrefix l [48, 120]) with hp | hp
  · rw [ray_hex hp, rhx_yes hp] at h
    have := rdT_len 16 65535 (by decide) (by decide) _ v h
    rw [List.length_drop] at this
    omega
  · rw [ray_dec hp] at h
    exact rnr_len h
theorem sgA_size : ∀ x ∈ sgA, x.size ≤ 2 := by decide
theorem wdB_len {l : List UInt8} (h : wdB l = true) : l.length ≤ 12 := by
  unfold wdB at h
  simpa using (Bool.and_eq_true_iff.1 h).2
theorem ftL_short {l : List UInt8} (h : tkFa (ftL l) = 0) : (ftL l).size ≤ 50 := by
  by_cases hs : sgOf l = ⟨#[]⟩
  · have e : ftL l = ⟨(l.take (runN l)).toArray⟩ := by unfold ftL; rw [if_pos hs]
    rcases Nat.eq_zero_or_pos (ftL l).size with hz | hz
    · omega
    · have hl : (ftL l).data.toList = l.take (runN l) := by rw [e]
      rcases tk_way (ftL l) hz with ⟨v, d, r, _, k, x⟩ | ⟨d, r, e2⟩ | ⟨d, q, _, k, x⟩ | ⟨d, q, q2, e2⟩ | ⟨d, q, q2, i, _, k, x⟩ | ⟨d, q, q2, i, _, k, x⟩
      · rw [size_list]; exact ray_len r
      · rw [e2] at h; cases h
      · exfalso
        have hh := hd_at (ftL l) hz
        rw [← hh, hl] at d q
        match l, hz, hl, d, q with
        | [], hz, hl, _, _ => rw [size_list, hl] at hz; simp at hz
        | c :: r, hz, hl, d, q =>
          by_cases hm : mkB (c.toNat : Int) = true
          · have er : runN (c :: r) = runN r + 1 := by rw [runN, if_pos hm]
            rw [er] at d q
            simp only [List.take_succ_cons, tkHd] at d q
            unfold mkB at hm
            rw [d, q] at hm
            cases hm
          · have er : runN (c :: r) = 0 := by rw [runN, if_neg hm]
            rw [size_list, hl, er] at hz
            simp at hz
      · rw [e2] at h; cases h
      · rw [size_list]; have := wdB_len q2; omega
      · rw [size_list]; have := wdB_len q2; omega
  · have e : ftL l = sgOf l := by unfold ftL; rw [if_neg hs]
    rw [e]
    rcases pfxOf_in l sgA with hp | hp
    · exact absurd hp hs
    · have := sgA_size _ hp
      show (pfxOf l sgA).size ≤ 50
      omega
theorem good_size {k a v : Int} {s : ByteArray} (h : goodT k a s v = true) : s.size ≤ 50 := by
  unfold goodT at h
  simp only [Bool.and_eq_true, decide_eq_true_eq, beq_iff_eq] at h
  have q := ftL_short h.2.1
  rcases Classical.em (ftL s.data.toList = s) with e | e
  · rw [e] at q; exact q
  · have := bytes_ne e
    rw [h.2.2.2.1] at this
    simp at this
/-- two boxed tokens keep their cells -/
theorem box_two {w w1 : World} {a0 a1 a2 a3 b0 b1 b2 b3 : Value} {t t' : TypeId} (b : Below ((w.alloc (.cells #[a0, a1, a2, a3] t)).alloc (.cells #[b0, b1, b2, b3] t')).heap.size ((w.alloc (.cells #[a0, a1, a2, a3] t)).alloc (.cells #[b0, b1, b2, b3] t')) w1) :
    FourIs w1 w.heap.size a0 a1 a2 a3 ∧ FourIs w1 (w.heap.size + 1) b0 b1 b2 b3 ∧ Below w.heap.size w w1 := by
  have h : FourIs ((w.alloc (.cells #[a0, a1, a2, a3] t)).alloc (.cells #[b0, b1, b2, b3] t')) w.heap.size a0 a1 a2 a3 := by
    refine ⟨?_, ?_, ?_, ?_, ?_⟩ <;> simp [go_sem]
  have h2 : FourIs ((w.alloc (.cells #[a0, a1, a2, a3] t)).alloc (.cells #[b0, b1, b2, b3] t')) (w.heap.size + 1) b0 b1 b2 b3 := by
    refine ⟨?_, ?_, ?_, ?_, ?_⟩ <;> simp [go_sem]
  exact ⟨h.on b, h2.on b, two_below b⟩
/-- a literal of two tokens -/
theorem lit_slt (w : World) (x y : Tok) (T : TypeId) : SlT (w.alloc (.cells #[.int .i64 x.k, .int .i64 x.a, .string x.t, .int .i64 x.v, .int .i64 y.k, .int .i64 y.a, .string y.t, .int .i64 y.v] T)) (.slice (some ⟨w.heap.size, 0, none⟩) 2 2) [x, y] := by
  refine .inr ⟨w.heap.size, 2, rfl, fun i j hj hi => ?_, by simp⟩
  simp only [List.length_cons, List.length_nil] at hi
  match i, j, hi, hj with
  | 0, 0, _, _ => simp [go_sem, tkC]
  | 0, 1, _, _ => simp [go_sem, tkC]
  | 0, 2, _, _ => simp [go_sem, tkC]
  | 0, 3, _, _ => simp [go_sem, tkC]
  | 1, 0, _, _ => simp [go_sem, tkC]
  | 1, 1, _, _ => simp [go_sem, tkC]
  | 1, 2, _, _ => simp [go_sem, tkC]
  | 1, 3, _, _ => simp [go_sem, tkC]
theorem lit_at (w : World) (n : Nat) (hn : n = w.heap.size) (x y : Tok) (T : TypeId) : SlT (w.alloc (.cells #[.int .i64 x.k, .int .i64 x.a, .string x.t, .int .i64 x.v, .int .i64 y.k, .int .i64 y.a, .string y.t, .int .i64 y.v] T)) (.slice (some ⟨n, 0, none⟩) 2 2) [x, y] := by
  subst hn; exact lit_slt w x y T
def SaysB2 (w : World) (a b : Bool) (e : Ending) (w' : World) : Prop := e = .returned (.tuple #[.bool a, .bool b]) ∧ Below w.heap.size w w'
/-- what CanTouch answers -/
def ctG (x y : Tok) : Bool := goodT x.k x.a x.t x.v && goodT y.k y.a y.t y.v
def ctT (x y : Tok) : Bool := flO (x.t ++ y.t) && sameL (tkT (x.t ++ y.t)).l [x, y]
set_option maxHeartbeats 3200000 in
theorem implCan_first (k a v k' a' v' : Int) (s s' : ByteArray) (w : World) (hs : s.size ≤ 1048576) (hT : Hid (Tabs w)) (hg : goodT k a s v = false) :
    Calls Tryz.prog 12 #[.agg #[.int .i64 k, .int .i64 a, .string s, .int .i64 v], .agg #[.int .i64 k', .int .i64 a', .string s', .int .i64 v']] w (SaysB2 w false false) := by
  have HA := Lib.hid (fun w hT => implIsToken_any k a v s w hs hT)
  rw [hg] at HA
  have T0 := Lib.hid (fun o o' => hT.out.below (two_new w o o'))
  clear hg
  go_enter Tryz.func12, Tryz.ntmps12
  go_wp2_with (go_at_call 21; refine (HA.out _ (T0.out _ _)).mono ?_; rintro e w1 ⟨rfl, b1⟩; have B1 := Lib.hid (two_below b1); clear b1)
  go_ret2
  exact ⟨rfl, B1.out⟩
set_option maxHeartbeats 3200000 in
theorem implCan_second (k a v k' a' v' : Int) (s s' : ByteArray) (w : World) (hs : s.size ≤ 1048576) (hs' : s'.size ≤ 1048576) (hT : Hid (Tabs w)) (hg : goodT k a s v = true) (hg' : goodT k' a' s' v' = false) :
    Calls Tryz.prog 12 #[.agg #[.int .i64 k, .int .i64 a, .string s, .int .i64 v], .agg #[.int .i64 k', .int .i64 a', .string s', .int .i64 v']] w (SaysB2 w false false) := by
  have HA := Lib.hid (fun w hT => implIsToken_any k a v s w hs hT)
  have HA' := Lib.hid (fun w hT => implIsToken_any k' a' v' s' w hs' hT)
  rw [hg] at HA
  rw [hg'] at HA'
  have T0 := Lib.hid (fun o o' => hT.out.below (two_new w o o'))
  clear hg hg'
  go_enter Tryz.func12, Tryz.ntmps12
  go_wp2_with (go_at_call 21; refine (HA.out _ (T0.out _ _)).mono ?_; rintro e w1 ⟨rfl, b1⟩; obtain ⟨F, ⟨c0, c1, c2, c3, cl⟩, B⟩ := box_two b1; have B1 := Lib.hid B; have T1 := Lib.hid (hT.out.below B); clear b1 F B cl; refine Hid.out ?_)
  refine Lib.hid ?_
  go_wp2_with (go_at_call 21; refine (HA'.out _ T1).mono ?_; rintro e w2 ⟨rfl, b2⟩; have B2 := Lib.hid (B1.out.trans (b2.mono B1.out.size)); clear b2)
  go_ret2
  exact ⟨rfl, B2.out⟩
set_option maxHeartbeats 3200000 in
theorem implCan_good (k a v k' a' v' : Int) (s s' : ByteArray) (w : World) (hT : Hid (Tabs w)) (hg : goodT k a s v = true) (hg' : goodT k' a' s' v' = true) :
    Calls Tryz.prog 12 #[.agg #[.int .i64 k, .int .i64 a, .string s, .int .i64 v], .agg #[.int .i64 k', .int .i64 a', .string s', .int .i64 v']] w (SaysB2 w (ctT ⟨k, a, s, v⟩ ⟨k', a', s', v'⟩) true) := by
  have hz := good_size hg
  have hz' := good_size hg'
  have HA := Lib.hid (fun w hT => implIsToken_any k a v s w (by omega) hT)
  have HA' := Lib.hid (fun w hT => implIsToken_any k' a' v' s' w (by omega) hT)
  have HF := Lib.hid (fun w hT => faultless_any (s ++ s') w hT)
  have HO : Hid (ctT ⟨k, a, s, v⟩ ⟨k', a', s', v'⟩ = (flO (s ++ s') && sameL (tkT (s ++ s')).l [⟨k, a, s, v⟩, ⟨k', a', s', v'⟩])) := Lib.hid rfl
  have hl := tkT_len (s ++ s')
  rw [hg] at HA
  rw [hg'] at HA'
  obtain ⟨l, hll⟩ : ∃ l, (tkT (s ++ s')).l = l := ⟨_, rfl⟩
  obtain ⟨o, ho⟩ : ∃ o, flO (s ++ s') = o := ⟨_, rfl⟩
  rw [hll, ho] at HF HO
  rw [hll] at hl
  have T0 := Lib.hid (fun o o' => hT.out.below (two_new w o o'))
  have HL := Lib.hid (fun w => lit_slt w ⟨k, a, s, v⟩ ⟨k', a', s', v'⟩ 31)
  have hl2 : l.length ≤ 1048576 := by omega
  clear hg hg' hll ho hl
  cases o
  · have HX : Hid (ctT ⟨k, a, s, v⟩ ⟨k', a', s', v'⟩ = false) := Lib.hid (by rw [HO.out]; rfl)
    rw [HX.out]
    clear HX HO
    go_enter Tryz.func12, Tryz.ntmps12
    go_wp2_with (go_at_call 21; refine (HA.out _ (T0.out _ _)).mono ?_; rintro e w1 ⟨rfl, b1⟩; obtain ⟨F, ⟨c0, c1, c2, c3, cl⟩, B⟩ := box_two b1; have B1 := Lib.hid B; have T1 := Lib.hid (hT.out.below B); have F1 := Lib.hid (box_two b1); clear b1 F B cl; refine Hid.out ?_)
    refine Lib.hid ?_
    go_wp2_with (go_at_call 21; refine (HA'.out _ T1).mono ?_; rintro e w2 ⟨rfl, b2⟩; have B2 := Lib.hid (B1.out.trans (b2.mono B1.out.size)); have T2 := Lib.hid (hT.out.below B2.out); obtain ⟨d0, d1, d2, d3, dl⟩ := F1.out.1.on b2; obtain ⟨e0, e1, e2, e3, el⟩ := F1.out.2.1.on b2; clear b2 c0 c1 c2 c3 dl el)
    go_wp2_with (go_at_call 71; refine (HF.out _ T2).mono ?_; rintro e w3 ⟨x, rfl, o3, b3⟩; have B3 := Lib.hid (B2.out.trans (b3.mono B2.out.size)); clear b3 o3 d0 d1 d2 d3 e0 e1 e2 e3)
    go_ret2
    exact ⟨rfl, B3.out⟩
  · have HX : Hid (ctT ⟨k, a, s, v⟩ ⟨k', a', s', v'⟩ = sameL l [⟨k, a, s, v⟩, ⟨k', a', s', v'⟩]) := Lib.hid (by rw [HO.out]; rfl)
    rw [HX.out]
    clear HX HO
    have HE := Lib.hid (fun x y w h h' => equalFunc_any x y l [⟨k, a, s, v⟩, ⟨k', a', s', v'⟩] w h h' hl2)
    obtain ⟨r, hr⟩ : ∃ r, sameL l [⟨k, a, s, v⟩, ⟨k', a', s', v'⟩] = r := ⟨_, rfl⟩
    rw [hr] at HE ⊢
    clear hr
    go_enter Tryz.func12, Tryz.ntmps12
    go_wp2_with (go_at_call 21; refine (HA.out _ (T0.out _ _)).mono ?_; rintro e w1 ⟨rfl, b1⟩; obtain ⟨F, ⟨c0, c1, c2, c3, cl⟩, B⟩ := box_two b1; have B1 := Lib.hid B; have T1 := Lib.hid (hT.out.below B); have F1 := Lib.hid (box_two b1); clear b1 F B cl; refine Hid.out ?_)
    refine Lib.hid ?_
    go_wp2_with (go_at_call 21; refine (HA'.out _ T1).mono ?_; rintro e w2 ⟨rfl, b2⟩; have B2 := Lib.hid (B1.out.trans (b2.mono B1.out.size)); have T2 := Lib.hid (hT.out.below B2.out); have F2 := Lib.hid (And.intro (F1.out.1.on b2) (F1.out.2.1.on b2)); obtain ⟨d0, d1, d2, d3, dl⟩ := F1.out.1.on b2; obtain ⟨e0, e1, e2, e3, el⟩ := F1.out.2.1.on b2; clear b2 c0 c1 c2 c3 dl el)
    go_wp2_with (go_at_call 71; refine (HF.out _ T2).mono ?_; rintro e w3 ⟨x, rfl, o3, b3⟩; have B3 := Lib.hid (B2.out.trans (b3.mono B2.out.size)); have O3 := Lib.hid o3.slt; clear o3 d0 d1 d2 d3 e0 e1 e2 e3; obtain ⟨d0, d1, d2, d3, dl⟩ := F2.out.1.on b3; obtain ⟨e0, e1, e2, e3, el⟩ := F2.out.2.on b3; clear b3 dl el)
    go_wp2_with (go_at_call 72; refine (HE.out x _ _ (Lib.hid (O3.out.below (one_new2 _ _))) (Lib.hid (HL.out _))).mono ?_; rintro e w4 ⟨rfl, b4⟩; have B4 := Lib.hid ((one_new2 _ _).trans (b4.mono (one_new2 _ _).size)); clear b4)
    go_ret2
    exact ⟨rfl, B3.out.trans (B4.out.mono B3.out.size)⟩
theorem implCan_any (k a v k' a' v' : Int) (s s' : ByteArray) (w : World) (hs : s.size ≤ 1048576) (hs' : s'.size ≤ 1048576) (hT : Hid (Tabs w)) :
    Calls Tryz.prog 12 #[.agg #[.int .i64 k, .int .i64 a, .string s, .int .i64 v], .agg #[.int .i64 k', .int .i64 a', .string s', .int .i64 v']] w (SaysB2 w (ctG ⟨k, a, s, v⟩ ⟨k', a', s', v'⟩ && ctT ⟨k, a, s, v⟩ ⟨k', a', s', v'⟩) (ctG ⟨k, a, s, v⟩ ⟨k', a', s', v'⟩)) := by
  rcases Bool.eq_false_or_eq_true (goodT k a s v) with hg | hg
  · rcases Bool.eq_false_or_eq_true (goodT k' a' s' v') with hg' | hg'
    · have e : ctG ⟨k, a, s, v⟩ ⟨k', a', s', v'⟩ = true := by unfold ctG; rw [hg, hg']; rfl
      rw [e, Bool.true_and]
      exact implCan_good k a v k' a' v' s s' w hT hg hg'
    · have e : ctG ⟨k, a, s, v⟩ ⟨k', a', s', v'⟩ = false := by unfold ctG; rw [hg, hg']; rfl
      rw [e, Bool.false_and]
      exact implCan_second k a v k' a' v' s s' w hs hs' hT hg hg'
  · have e : ctG ⟨k, a, s, v⟩ ⟨k', a', s', v'⟩ = false := by unfold ctG; rw [hg]; rfl
    rw [e, Bool.false_and]
    exact implCan_first k a v k' a' v' s s' w hs hT hg
set_option maxHeartbeats 3200000 in
theorem specCan_first (k a v k' a' v' : Int) (s s' : ByteArray) (w : World) (hs : s.size ≤ 1048576) (hg : goodT k a s v = false) :
    Calls Tryz.prog 13 #[.agg #[.int .i64 k, .int .i64 a, .string s, .int .i64 v], .agg #[.int .i64 k', .int .i64 a', .string s', .int .i64 v']] w (SaysB2 w false false) := by
  have HA := Lib.hid (fun w => specGood_any k a v s w hs)
  rw [hg] at HA
  clear hg
  go_enter Tryz.func13, Tryz.ntmps13
  go_wp2_with (go_at_call 74; refine (HA.out _).mono ?_; rintro e w1 ⟨rfl, b1⟩; have B1 := Lib.hid (two_below b1); clear b1)
  go_ret2
  exact ⟨rfl, B1.out⟩
set_option maxHeartbeats 3200000 in
theorem specCan_second (k a v k' a' v' : Int) (s s' : ByteArray) (w : World) (hs : s.size ≤ 1048576) (hs' : s'.size ≤ 1048576) (hg : goodT k a s v = true) (hg' : goodT k' a' s' v' = false) :
    Calls Tryz.prog 13 #[.agg #[.int .i64 k, .int .i64 a, .string s, .int .i64 v], .agg #[.int .i64 k', .int .i64 a', .string s', .int .i64 v']] w (SaysB2 w false false) := by
  have HA := Lib.hid (fun w => specGood_any k a v s w hs)
  have HA' := Lib.hid (fun w => specGood_any k' a' v' s' w hs')
  rw [hg] at HA
  rw [hg'] at HA'
  clear hg hg'
  go_enter Tryz.func13, Tryz.ntmps13
  go_wp2_with (go_at_call 74; refine (HA.out _).mono ?_; rintro e w1 ⟨rfl, b1⟩; obtain ⟨F, ⟨c0, c1, c2, c3, cl⟩, B⟩ := box_two b1; have B1 := Lib.hid B; clear b1 F B cl; refine Hid.out ?_)
  refine Lib.hid ?_
  go_wp2_with (go_at_call 74; refine (HA'.out _).mono ?_; rintro e w2 ⟨rfl, b2⟩; have B2 := Lib.hid (B1.out.trans (b2.mono B1.out.size)); clear b2)
  go_ret2
  exact ⟨rfl, B2.out⟩
set_option maxHeartbeats 800000 in
theorem specCan_good (k a v k' a' v' : Int) (s s' : ByteArray) (w : World) (hg : goodT k a s v = true) (hg' : goodT k' a' s' v' = true) :
    Calls Tryz.prog 13 #[.agg #[.int .i64 k, .int .i64 a, .string s, .int .i64 v], .agg #[.int .i64 k', .int .i64 a', .string s', .int .i64 v']] w (SaysB2 w (ctT ⟨k, a, s, v⟩ ⟨k', a', s', v'⟩) true) := by
  have hz := good_size hg
  have hz' := good_size hg'
  have ht : (s ++ s').size ≤ 4000 := by rw [ByteArray.size_append]; omega
  have HA := Lib.hid (fun w => specGood_any k a v s w (by omega))
  have HA' := Lib.hid (fun w => specGood_any k' a' v' s' w (by omega))
  have HF := Lib.hid (fun w => tkAll_any (s ++ s') w (by omega))
  have HO : Hid (ctT ⟨k, a, s, v⟩ ⟨k', a', s', v'⟩ = (((tkL (s ++ s')).f == 0) && sameL (tkL (s ++ s')).l [⟨k, a, s, v⟩, ⟨k', a', s', v'⟩])) := Lib.hid (by unfold ctT flO; rw [(tkT_yes ht).1, (tkT_yes ht).2, Bool.true_and])
  have hl := tkT_len (s ++ s')
  rw [(tkT_yes ht).1] at hl
  rw [hg] at HA
  rw [hg'] at HA'
  obtain ⟨R, hR⟩ : ∃ R, tkL (s ++ s') = R := ⟨_, rfl⟩
  rw [hR] at HF HO hl
  obtain ⟨l, f, g⟩ := R
  have hl2 : l.length ≤ 1048576 := Nat.le_trans hl (by omega)
  have HL := Lib.hid (fun w n hn => lit_at w n hn ⟨k, a, s, v⟩ ⟨k', a', s', v'⟩ 31)
  have HE := Lib.hid (fun x y w h h' => tkSame_any x y l [⟨k, a, s, v⟩, ⟨k', a', s', v'⟩] w h h' hl2)
  clear hg hg' hR hl ht
  by_cases hf : f = 0
  · subst hf
    have HX : Hid (ctT ⟨k, a, s, v⟩ ⟨k', a', s', v'⟩ = sameL l [⟨k, a, s, v⟩, ⟨k', a', s', v'⟩]) := Lib.hid (by rw [HO.out]; rfl)
    rw [HX.out]
    clear HX HO
    obtain ⟨r, hr⟩ : ∃ r, sameL l [⟨k, a, s, v⟩, ⟨k', a', s', v'⟩] = r := ⟨_, rfl⟩
    rw [hr] at HE ⊢
    clear hr
    go_enter Tryz.func13, Tryz.ntmps13
    go_wp2_with (go_at_call 74; refine (HA.out _).mono ?_; rintro e w1 ⟨rfl, b1⟩; obtain ⟨F, ⟨c0, c1, c2, c3, cl⟩, B⟩ := box_two b1; have B1 := Lib.hid B; have F1 := Lib.hid (box_two b1); clear b1 F B cl; refine Hid.out ?_)
    refine Lib.hid ?_
    go_wp2_with (go_at_call 74; refine (HA'.out _).mono ?_; rintro e w2 ⟨rfl, b2⟩; have B2 := Lib.hid (B1.out.trans (b2.mono B1.out.size)); have F2 := Lib.hid (And.intro (F1.out.1.on b2) (F1.out.2.1.on b2)); obtain ⟨d0, d1, d2, d3, dl⟩ := F1.out.1.on b2; obtain ⟨e0, e1, e2, e3, el⟩ := F1.out.2.1.on b2; clear b2 c0 c1 c2 c3 dl el)
    go_wp2_with (go_at_call 75; refine (HF.out _).mono ?_; rintro e w3 ⟨x, rfl, o3, b3⟩; have B3 := Lib.hid (B2.out.trans (b3.mono B2.out.size)); have O3 := Lib.hid o3.slt; clear o3 d0 d1 d2 d3 e0 e1 e2 e3; obtain ⟨d0, d1, d2, d3, dl⟩ := (F2.out.1.on b3).on (one_new2 _ (.cells #[.int .i64 0, .int .i64 g] 46)); obtain ⟨e0, e1, e2, e3, el⟩ := (F2.out.2.on b3).on (one_new2 _ (.cells #[.int .i64 0, .int .i64 g] 46)); clear b3 dl el)
    go_wp2_with (go_at_call 76; refine (HE.out x _ _ (Lib.hid ((O3.out.below (one_new2 _ _)).below (one_new2 _ _))) (Lib.hid (HL.out _ _ (by simp)))).mono ?_; rintro e w4 ⟨rfl, b4⟩; have B4 := Lib.hid (two_below b4); clear b4)
    go_ret2
    exact ⟨rfl, B3.out.trans (B4.out.mono B3.out.size)⟩
  · have df : (f == 0) = false := by simpa using hf
    have HX : Hid (ctT ⟨k, a, s, v⟩ ⟨k', a', s', v'⟩ = false) := Lib.hid (by rw [HO.out]; show ((f == 0) && _) = false; rw [df]; rfl)
    rw [HX.out]
    clear HX HO hf
    go_enter Tryz.func13, Tryz.ntmps13
    go_wp2_with (go_at_call 74; refine (HA.out _).mono ?_; rintro e w1 ⟨rfl, b1⟩; obtain ⟨F, ⟨c0, c1, c2, c3, cl⟩, B⟩ := box_two b1; have B1 := Lib.hid B; have F1 := Lib.hid (box_two b1); clear b1 F B cl; refine Hid.out ?_)
    refine Lib.hid ?_
    go_wp2_with (go_at_call 74; refine (HA'.out _).mono ?_; rintro e w2 ⟨rfl, b2⟩; have B2 := Lib.hid (B1.out.trans (b2.mono B1.out.size)); obtain ⟨d0, d1, d2, d3, dl⟩ := F1.out.1.on b2; obtain ⟨e0, e1, e2, e3, el⟩ := F1.out.2.1.on b2; clear b2 c0 c1 c2 c3 dl el)
    go_wp2_with (go_at_call 75; refine (HF.out _).mono ?_; rintro e w3 ⟨x, rfl, o3, b3⟩; have B3 := Lib.hid (B2.out.trans (b3.mono B2.out.size)); clear b3 o3 d0 d1 d2 d3 e0 e1 e2 e3)
    go_ret2
    exact ⟨rfl, B3.out.alloc B3.out.size _⟩
theorem specCan_any (k a v k' a' v' : Int) (s s' : ByteArray) (w : World) (hs : s.size ≤ 1048576) (hs' : s'.size ≤ 1048576) :
    Calls Tryz.prog 13 #[.agg #[.int .i64 k, .int .i64 a, .string s, .int .i64 v], .agg #[.int .i64 k', .int .i64 a', .string s', .int .i64 v']] w (SaysB2 w (ctG ⟨k, a, s, v⟩ ⟨k', a', s', v'⟩ && ctT ⟨k, a, s, v⟩ ⟨k', a', s', v'⟩) (ctG ⟨k, a, s, v⟩ ⟨k', a', s', v'⟩)) := by
  rcases Bool.eq_false_or_eq_true (goodT k a s v) with hg | hg
  · rcases Bool.eq_false_or_eq_true (goodT k' a' s' v') with hg' | hg'
    · have e : ctG ⟨k, a, s, v⟩ ⟨k', a', s', v'⟩ = true := by unfold ctG; rw [hg, hg']; rfl
      rw [e, Bool.true_and]
      exact specCan_good k a v k' a' v' s s' w hg hg'
    · have e : ctG ⟨k, a, s, v⟩ ⟨k', a', s', v'⟩ = false := by unfold ctG; rw [hg, hg']; rfl
      rw [e, Bool.false_and]
      exact specCan_second k a v k' a' v' s s' w hs hs' hg hg'
  · have e : ctG ⟨k, a, s, v⟩ ⟨k', a', s', v'⟩ = false := by unfold ctG; rw [hg]; rfl
    rw [e, Bool.false_and]
    exact specCan_first k a v k' a' v' s s' w hs hg
end Go.Proofs.YtmmofchfafnkcaaGreatDoor

/- Arguments that are lists of tokens: opened and measured. -/
namespace Go.Proofs.YtmmofchfafnkcaaGreatDoor
set_option maxRecDepth 100000
open Go.RowKit Go.Joins Go.ChangeShapes Go.WideShapes Go.Deep
set_option linter.unusedVariables false

/-- the cells of a list of tokens that lies anywhere -/
def OffT (w : World) (b off : Nat) (l : List Tok) : Prop := ∀ i j, j < 4 → i < l.length → w.cell? ⟨b, off + (i * 4 + j), none⟩ = (tkC (l.getD i tok0))[j]?
def InT (w : World) (a : Option Addr) (l : List Tok) : Prop := l = [] ∨ ∃ b off, a = some ⟨b, off, none⟩ ∧ OffT w b off l
def SzM (l : List Tok) : Prop := ∀ i, i < l.length → (l.getD i tok0).t.size ≤ 9223372036854775807
theorem OffT.four {w : World} {b off : Nat} {l : List Tok} (h : OffT w b off l) (i : Nat) (hi : i < l.length) (x : Tok) (hx : l.getD i tok0 = x) :
    w.cell? ⟨b, off + i * 4, none⟩ = some (.int .i64 x.k) ∧ w.cell? ⟨b, off + i * 4 + 1, none⟩ = some (.int .i64 x.a) ∧ w.cell? ⟨b, off + i * 4 + 2, none⟩ = some (.string x.t) ∧ w.cell? ⟨b, off + i * 4 + 3, none⟩ = some (.int .i64 x.v) := by
  subst hx
  exact ⟨(h i 0 (by decide) hi), (h i 1 (by decide) hi), (h i 2 (by decide) hi), (h i 3 (by decide) hi)⟩
theorem OffT.lt {w : World} {b off : Nat} {l : List Tok} (h : OffT w b off l) (hl : 0 < l.length) : b < w.heap.size :=
  World.block_lt_of_cell? w ⟨b, off + 0 * 4, none⟩ (h.four 0 hl _ rfl).1
theorem OffT.below {w w' : World} {b off B : Nat} {l : List Tok} (h : OffT w b off l) (hb : Below B w w') (hg : b < B) : OffT w' b off l := fun i j hj hi => (hb.cell (p := ⟨b, off + (i * 4 + j), none⟩) hg).trans (h i j hj hi)
theorem InT.below {w w' : World} {a : Option Addr} {l : List Tok} (h : InT w a l) (hb : Below w.heap.size w w') : InT w' a l := by
  rcases h with h | ⟨b, off, ha, h⟩
  · exact .inl h
  · rcases Nat.eq_zero_or_pos l.length with h0 | h0
    · exact .inl (List.eq_nil_of_length_eq_zero h0)
    · exact .inr ⟨b, off, ha, h.below hb (h.lt h0)⟩
section
variable {H : Type} {enc : TypeId × Value → H} {w : World} {base : Nat} {spare : Nat → Bool} {held : Bool}
end
/-- a measure of a list -/
def SaysZ (w : World) (l : List Tok) (e : Ending) (w' : World) : Prop :=
  ∃ r : Int, e = .returned (.int .i64 r) ∧ Below w.heap.size w w' ∧ (0 ≤ r → l.length ≤ 1048576 ∧ SzT l)
def ZRel (w : World) (l : List Tok) (n : Nat) (i m : Value) (wr : World) : Prop :=
  ∃ (k : Nat) (r : Int), k ≤ n ∧ i = .int .i64 k ∧ m = .int .i64 r ∧ 0 ≤ r ∧ r ≤ 1048576 ∧ Below w.heap.size w wr ∧ ∀ j, j < k → (l.getD j tok0).t.size ≤ 1048576
end Go.Proofs.YtmmofchfafnkcaaGreatDoor

/- Lists of tokens made of arguments. -/
namespace Go.Proofs.YtmmofchfafnkcaaGreatDoor
set_option maxRecDepth 100000
open Go.RowKit
set_option linter.unusedVariables false

/-- a row of tokens of the call's own, cell by cell -/
def OwnX (w : World) (B g n : Nat) (xs : List Value) : Prop := w.ownsRow B 31 4 (.slice (some ⟨g, 0, none⟩) n n) n xs
theorem OwnX.lt {w : World} {B g n : Nat} {xs : List Value} (h : OwnX w B g n xs) : B ≤ g ∧ g < w.heap.size := World.ownsRow.lt h g rfl
theorem OwnX.below {w w' : World} {B B' g n : Nat} {xs : List Value} (h : OwnX w B g n xs) (hb : Below B' w w') (hg : g < B') : OwnX w' B g n xs := by
  obtain ⟨h1, h2⟩ := h
  refine ⟨h1, ?_⟩
  rcases h2 with h2 | ⟨g', cap', cur, a, b, c, d⟩
  · exact .inl h2
  · cases a
    exact .inr ⟨g, n, cur, rfl, b, by rw [hb.block g hg]; exact c, d⟩
theorem OwnX.len {w : World} {B g n : Nat} {xs : List Value} (h : OwnX w B g n xs) : xs.length = n * 4 := h.1
theorem OwnX.cell {w : World} {B g n : Nat} {xs : List Value} (h : OwnX w B g n xs) (j : Nat) (hj : j < n * 4) : ∃ u, w.cell? ⟨g, j, none⟩ = some u :=
  ⟨xs[j]'(by rw [h.len]; exact hj), by rw [World.ownsRow.cellAt h j hj]; exact List.getElem?_eq_getElem _⟩
theorem OwnX.store {w : World} {B g n : Nat} {xs : List Value} (h : OwnX w B g n xs) (j : Nat) (v : Value) : OwnX (w.setCell ⟨g, j, none⟩ v) B g n (xs.set j v) := (World.ownsRow.stored h j v).1
/-- the first tokens are there -/
def GotT (l : List Tok) (xs : List Value) (k : Nat) : Prop := ∀ i j, i < k → j < 4 → xs[i * 4 + j]? = (tkC (l.getD i tok0))[j]?
theorem GotT.more {l : List Tok} {xs : List Value} {k n : Nat} (h : GotT l xs k) (hl : xs.length = n * 4) (hk : k < n) (x : Tok) (hx : l.getD k tok0 = x) :
    GotT l ((((xs.set (k * 4) (.int .i64 x.k)).set (k * 4 + 1) (.int .i64 x.a)).set (k * 4 + 2) (.string x.t)).set (k * 4 + 3) (.int .i64 x.v)) (k + 1) := by
  intro i j hi hj
  by_cases hik : i = k
  · subst hik
    rw [hx]
    match j, hj with
    | 0, _ => simp [List.getElem?_set, tkC]; omega
    | 1, _ => simp [List.getElem?_set, tkC]; omega
    | 2, _ => simp [List.getElem?_set, tkC]; omega
    | 3, _ => simp [List.getElem?_set, tkC]; omega
  · rw [List.getElem?_set_ne (by omega), List.getElem?_set_ne (by omega), List.getElem?_set_ne (by omega), List.getElem?_set_ne (by omega)]
    exact h i j (by omega) hj
theorem GotT.all {w : World} {B g n : Nat} {l : List Tok} {xs : List Value} (ho : OwnX w B g n xs) (h : GotT l xs n) (hn : l.length = n) : OwnK w B (.slice (some ⟨g, 0, none⟩) n n) n l := by
  have e : xs = tkCs l := by
    apply List.ext_getElem?
    intro m
    by_cases hm : m < n * 4
    · have q := h (m / 4) (m % 4) (by omega) (by omega)
      have q2 := tkCs_get l (m / 4) (m % 4) (by omega) (by omega)
      have e1 : m / 4 * 4 + m % 4 = m := by omega
      rw [e1] at q q2
      rw [q, q2]
      rfl
    · rw [List.getElem?_eq_none (by rw [ho.len]; omega), List.getElem?_eq_none (by rw [tkCs_length]; omega)]
  subst e
  exact ho
def SaysS (w : World) (l : List Tok) (e : Ending) (w' : World) : Prop := ∃ v, e = .returned v ∧ SlT w' v l ∧ Below w.heap.size w w' ∧ OwnK w' w.heap.size v l.length l
theorem set4' {n : Nat} {w w1 : World} (h : Below n w w1) (b : Nat) (hb : n ≤ b) (j0 j1 j2 j3 : Nat) (v0 v1 v2 v3 : Value) : Below n w ((((w1.setCell ⟨b, j0, none⟩ v0).setCell ⟨b, j1, none⟩ v1).setCell ⟨b, j2, none⟩ v2).setCell ⟨b, j3, none⟩ v3) :=
  (((h.setCell hb _).setCell hb _).setCell hb _).setCell hb _
def TRel (w : World) (l : List Tok) (n : Nat) (i : Value) (wr : World) : Prop :=
  ∃ (k : Nat) (xs : List Value), k ≤ n ∧ i = .int .i64 k ∧ OwnX wr w.heap.size w.heap.size n xs ∧ Below w.heap.size w wr ∧ GotT l xs k
end Go.Proofs.YtmmofchfafnkcaaGreatDoor
