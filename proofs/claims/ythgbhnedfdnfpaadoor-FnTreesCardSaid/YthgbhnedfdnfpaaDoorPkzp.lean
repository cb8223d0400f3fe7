import Derived.Test.YthgbhnedfdnfpaaDoorPkzo
import Derived.Test.YthgbhnedfdnfpaaDoorPkq
import Derived.Test.YthgbhnedfdnfpaaDoorPkzb
import Derived.Test.YthgbhnedfdnfpaaDoorPkzj
import Derived.Test.YthgbhnedfdnfpaaDoorPkza
import Derived.Test.YthgbhnedfdnfpaaDoorPkzk
/- Trees of classes, plain facts (for FnTrees, FnPlacesOfLines). -/
namespace Go.Proofs.YthgbhnedfdnfpaaDoor
set_option maxRecDepth 100000
set_option linter.unusedVariables false
set_option linter.unusedSimpArgs false

theorem up_kid {cs : List Cls} (T : TreeF cs) {i k : Nat} (hi : i < cs.length) (hk : k ∈ kids cs (cs.getD i cls0).i) : up cs 9 k = k :: up cs 9 i := by
  have hd := dep_kid T hi hk
  have h8 := (way_len T (kids_mem hk).1).2
  have hf := par_kid T hi hk
  have e : up cs 9 k = k :: up cs 8 i := by
    show k :: (match fnd cs (cs.getD k cls0).p with | .none => [] | .some j => up cs 8 j) = _
    rw [hf]
  have hl := congrArg List.length e
  rw [List.length_cons] at hl
  unfold depP at h8
  rw [e, up_more cs 8 i (by omega)]
theorem kidsF_tp : ∀ (l : List Cls) (a : Nat), (kidsF 0 a l).length = (l.filter (fun x => x.p == 0)).length
  | [], _ => rfl
  | y :: r, a => by
    unfold kidsF
    rw [List.filter_cons]
    by_cases h : y.p = 0
    · rw [if_pos h, if_pos (by simpa using h)]; simp [kidsF_tp r (a + 1)]
    · rw [if_neg h, if_neg (by simpa using h)]; exact kidsF_tp r (a + 1)
theorem kids_tp {cs : List Cls} (T : TreeF cs) (ht : cT cs = 1) : kids cs 0 = [topF cs] := by
  have h := topF_at cs (by omega)
  have hm := mem_kids h.1 h.2
  have hl : (kids cs 0).length = 1 := (kidsF_tp cs 0).trans ht
  match hk : kids cs 0, hl with
  | [a], _ => rw [hk] at hm; simp only [List.mem_singleton] at hm; rw [hm]
theorem par_none {cs : List Cls} (T : TreeF cs) {j : Nat} (hj : j < cs.length) (hf : fnd cs (cs.getD j cls0).p = Option.none) : (cs.getD j cls0).p = 0 := by
  have hn := T.node j hj
  unfold nodeOk at hn
  rw [Bool.and_eq_true] at hn
  have hp := way_par cs j hn.1
  unfold parOk at hp
  rw [hf] at hp
  simpa using hp
theorem one_top {cs : List Cls} (T : TreeF cs) (ht : cT cs = 1) : ∀ j, j < cs.length → fnd cs (cs.getD j cls0).p = Option.none → j = topF cs := fun j hj hf => by
  have := mem_kids hj (par_none T hj hf)
  rw [kids_tp T ht] at this
  simpa using this
theorem last_mem : ∀ (l : List Nat), 0 < l.length → lastN l ∈ l
  | [], h => by simp at h
  | [k], _ => by simp [lastN]
  | k :: j :: r, _ => by rw [lastN_cons]; exact List.mem_cons_of_mem _ (last_mem (j :: r) (by simp))
/-- a way ends at the top -/
theorem way_top {cs : List Cls} (T : TreeF cs) (ht : cT cs = 1) {i : Nat} (hi : i < cs.length) : lastN (up cs 9 i) = topF cs := by
  have hn := T.node i hi
  unfold nodeOk wayOk at hn
  simp only [Bool.and_eq_true, decide_eq_true_eq, beq_iff_eq] at hn
  have hw := (way_len T hi).1
  unfold depP at hw
  have hl := up_lt cs 9 i hi _ (last_mem (up cs 9 i) (by omega))
  have hm := mem_kids hl hn.1.2
  rw [kids_tp T ht] at hm
  simpa using hm
theorem spare_pos {cs : List Cls} (T : TreeF cs) {i : Nat} (hi : i < cs.length) : 0 ≤ spare cs (cs.getD i cls0) := by
  have h := T.node i hi
  unfold nodeOk at h
  simp only [Bool.and_eq_true, decide_eq_true_eq] at h
  exact h.2.1
/-- the children's Rates and what is spare -/
theorem rates_all {cs : List Cls} (i : Nat) : spare cs (cs.getD i cls0) + ((kids cs (cs.getD i cls0).i).map (fun k => (cs.getD k cls0).r)).sum = (cs.getD i cls0).r := by
  rw [← spare_kids, spK_sum]
  omega
theorem lvsF_mem (cs : List Cls) : ∀ (l : List Cls) (a j : Nat), j ∈ lvsF cs a l ↔ a ≤ j ∧ j < a + l.length ∧ hasK cs (l.getD (j - a) cls0).i = false
  | [], a, j => by simp [lvsF]; intro h1 h2; omega
  | x :: r, a, j => by
    unfold lvsF
    have ih := lvsF_mem cs r (a + 1) j
    have hg : a + 1 ≤ j → (x :: r).getD (j - a) cls0 = r.getD (j - (a + 1)) cls0 := fun h => by
      rw [show j - a = (j - (a + 1)) + 1 by omega, List.getD_cons_succ]
    by_cases hk : hasK cs x.i = true
    · rw [if_pos hk, ih]
      refine ⟨fun h => ⟨by omega, by simp only [List.length_cons]; omega, by rw [hg h.1]; exact h.2.2⟩, fun h => ?_⟩
      by_cases hj : j = a
      · subst hj
        have := h.2.2
        simp [hk] at this
      · have h3 := h.2.2
        have h2 := h.2.1
        simp only [List.length_cons] at h2
        rw [hg (by omega)] at h3
        exact ⟨by omega, by omega, h3⟩
    · rw [if_neg hk, List.mem_cons, ih]
      refine ⟨fun h => ?_, fun h => ?_⟩
      · rcases h with h | h
        · subst h
          refine ⟨by omega, by simp, ?_⟩
          simpa using hk
        · exact ⟨by omega, by simp only [List.length_cons]; omega, by rw [hg h.1]; exact h.2.2⟩
      · by_cases hj : j = a
        · exact .inl hj
        · have h3 := h.2.2
          have h2 := h.2.1
          simp only [List.length_cons] at h2
          rw [hg (by omega)] at h3
          exact .inr ⟨by omega, by omega, h3⟩
/-- a class has no children just when it is a leaf -/
theorem leaf_iff (cs : List Cls) {i : Nat} (hi : i < cs.length) : kids cs (cs.getD i cls0).i = [] ↔ i ∈ leaves cs := by
  unfold leaves
  rw [lvsF_mem]
  constructor
  · intro h
    exact ⟨by omega, by omega, by rw [Nat.sub_zero]; exact (kidsF_nil _ cs 0).1 h⟩
  · intro h
    rw [Nat.sub_zero] at h
    exact leaf_kids h.2.2
/-- the way of a class on a way -/
theorem up_suf {cs : List Cls} (T : TreeF cs) : ∀ (d i : Nat), i < cs.length → depP cs i = d → ∀ j ∈ up cs 9 i, ∃ p, up cs 9 i = p ++ up cs 9 j
  | 0, i, hi, hd, j, hj => by have := (way_len T hi).1; omega
  | d + 1, i, hi, hd, j, hj => by
    cases hf : fnd cs (cs.getD i cls0).p with
    | none =>
      have e : up cs 9 i = [i] := by
        show i :: (match fnd cs (cs.getD i cls0).p with | .none => [] | .some j => up cs 8 j) = _
        rw [hf]
      rw [e] at hj
      simp only [List.mem_singleton] at hj
      subst hj
      exact ⟨[], rfl⟩
    | some p =>
      have hp := fnd_get cs _ p hf
      have hk : i ∈ kids cs (cs.getD p cls0).i := mem_kids hi hp.2.symm
      have e := up_kid T hp.1 hk
      have hdp := dep_kid T hp.1 hk
      rw [e] at hj
      rcases List.mem_cons.1 hj with h | h
      · subst h; exact ⟨[], rfl⟩
      · obtain ⟨q, hq⟩ := up_suf T d p hp.1 (by omega) j h
        exact ⟨i :: q, by rw [e, hq]; rfl⟩
/-- of two classes one at most is below the other -/
theorem below_one {cs : List Cls} (T : TreeF cs) {a b : Nat} (ha : a < cs.length) (hb : b < cs.length) (h1 : b ∈ up cs 9 a) (h2 : a ∈ up cs 9 b) : a = b := by
  obtain ⟨p, hp⟩ := up_suf T _ a ha rfl b h1
  obtain ⟨q, hq⟩ := up_suf T _ b hb rfl a h2
  have h := congrArg List.length hp
  rw [hq] at h
  simp only [List.length_append] at h
  have hpn : p = [] := List.eq_nil_of_length_eq_zero (by omega)
  rw [hpn, List.nil_append] at hp
  obtain ⟨r, hr⟩ := up_cons cs 8 a
  obtain ⟨t, ht⟩ := up_cons cs 8 b
  rw [hr, ht] at hp
  exact (List.cons.inj hp).1
end Go.Proofs.YthgbhnedfdnfpaaDoor

/- What the law of trees of classes looks at: facts. -/
namespace Go.Proofs.YthgbhnedfdnfpaaDoor
set_option maxRecDepth 100000
set_option linter.unusedVariables false
set_option linter.unusedSimpArgs false

theorem has_tree {c : Cfg} {q : Int} (h : hasI c q = true) : ∃ k : Nat, q = (k : Int) ∧ k < c.cs.length ∧ goodC c = true ∧ TreeF c.cs ∧ cT c.cs = 1 ∧ c.cs.length ≤ 24 := by
  obtain ⟨hg, k, rfl, hk⟩ := has_iff h
  have G := good_of hg
  exact ⟨k, rfl, hk, hg, G.tree, G.top, G.n24⟩
theorem has_of {c : Cfg} {k : Nat} (hg : goodC c = true) (hk : k < c.cs.length) : hasI c (k : Int) = true := by
  unfold hasI
  rw [hg]
  simp
  omega
theorem way_facts {c : Cfg} {k : Nat} (h : hasI c (k : Int) = true) : resWayUp1 c k = up c.cs 9 k ∧ 1 ≤ (up c.cs 9 k).length ∧ (up c.cs 9 k).length ≤ 8 ∧ (up c.cs 9 k).getD 0 0 = k ∧ (((up c.cs 9 k).getD ((up c.cs 9 k).length - 1) 0 : Nat) : Int) = resTopOf1 c := by
  obtain ⟨k', hq, hk, hg, T, ht, _⟩ := has_tree h
  have e : k = k' := by omega
  subst e
  obtain ⟨r, hr⟩ := up_cons c.cs 8 k
  have hw := way_len T hk
  unfold depP at hw
  refine ⟨by unfold resWayUp1; rw [if_pos h]; rfl, hw.1, hw.2, by rw [hr]; rfl, ?_⟩
  rw [lastN_get _ (by omega), way_top T ht hk]
  unfold resTopOf1
  rw [if_pos hg]
theorem kid_facts {c : Cfg} {k : Nat} (h : hasI c (k : Int) = true) : resChildClasses1 c k = kids c.cs (c.cs.getD k cls0).i ∧ (kids c.cs (c.cs.getD k cls0).i).length ≤ 24 ∧
    (∀ n ∈ kids c.cs (c.cs.getD k cls0).i, n < c.cs.length ∧ hasI c (n : Int) = true ∧ resWayUp1 c n = n :: up c.cs 9 k) ∧
    (((((kids c.cs (c.cs.getD k cls0).i).length : Nat) : Int) == 0) = (resLeavesOf1 c).any (fun j => ((j : Int) == (k : Int)))) ∧ 0 ≤ resSpareRate1 c k ∧
    resSpareRate1 c k + ((kids c.cs (c.cs.getD k cls0).i).map (fun n => (c.cs.getD n cls0).r)).sum = (c.cs.getD k cls0).r := by
  obtain ⟨k', hq, hk, hg, T, ht, h24⟩ := has_tree h
  have e : k = k' := by omega
  subst e
  have hc := cc_good h
  have hs := sr_good h
  have hl := lenChildClasses c k
  rw [hc.1] at hl
  refine ⟨hc.1, hl, fun n hn => ?_, ?_, by rw [hs.1]; exact spare_pos T hk, by rw [hs.1]; exact rates_all k⟩
  · have hm := (kids_mem hn).1
    have hh := has_of hg hm
    exact ⟨hm, hh, (way_facts hh).1.trans (up_kid T hk hn)⟩
  · unfold resLeavesOf1
    rw [if_pos hg, Bool.eq_iff_iff, List.any_eq_true]
    have := leaf_iff c.cs hk
    constructor
    · intro h0
      have h1 : kids c.cs (c.cs.getD k cls0).i = [] := by
        rw [← List.length_eq_zero_iff]
        simpa using h0
      exact ⟨k, this.1 h1, by simp⟩
    · rintro ⟨j, hj, hjk⟩
      have : j = k := Int.ofNat_inj.1 (by simpa using hjk)
      subst this
      rw [(leaf_iff c.cs hk).2 hj]
      rfl
theorem below_facts {c : Cfg} {a b : Int} (h2 : resIsBelow2 c a b = true) (h1 : resIsBelow1 c a b = true) (hne : a ≠ b) : resIsBelow2 c b a = true ∧ resIsBelow1 c b a = false := by
  unfold resIsBelow2 at h2 ⊢
  unfold resIsBelow1 at h1 ⊢
  rw [Bool.and_eq_true] at h2
  obtain ⟨ha, hb⟩ := h2
  rw [ha, hb] at h1 ⊢
  simp only [Bool.and_self, Bool.true_and] at h1 ⊢
  refine ⟨trivial, ?_⟩
  obtain ⟨k, rfl, hk, hg, T, _, _⟩ := has_tree ha
  obtain ⟨m, rfl, hm, _, _, _, _⟩ := has_tree hb
  rw [Bool.eq_false_iff]
  intro h
  rw [List.any_eq_true] at h h1
  obtain ⟨x, hx, hx2⟩ := h1
  obtain ⟨y, hy, hy2⟩ := h
  have e1 : x = m := Int.ofNat_inj.1 (by simpa using hx2)
  have e2 : y = k := Int.ofNat_inj.1 (by simpa using hy2)
  subst e1 e2
  exact hne (by rw [below_one T hk hm hx hy])
theorem sum_take (f : Nat → Int) (l : List Nat) (k : Nat) (hk : k < l.length) (a r : Int) (h : a + ((l.drop k).map f).sum = r) : (a + f (l.getD k 0)) + ((l.drop (k + 1)).map f).sum = r := by
  rw [List.drop_eq_getElem_cons hk, List.map_cons, List.sum_cons] at h
  rw [List.getD_eq_getElem?_getD, List.getElem?_eq_getElem hk]
  simp only [Option.getD_some]
  omega
theorem sum_nn (f : Nat → Int) : ∀ (l : List Nat), (∀ n ∈ l, 0 ≤ f n) → 0 ≤ (l.map f).sum
  | [], _ => by simp
  | x :: r, h => by
    rw [List.map_cons, List.sum_cons]
    have := h x (by simp)
    have := sum_nn f r (fun n hn => h n (by simp [hn]))
    omega
end Go.Proofs.YthgbhnedfdnfpaaDoor
