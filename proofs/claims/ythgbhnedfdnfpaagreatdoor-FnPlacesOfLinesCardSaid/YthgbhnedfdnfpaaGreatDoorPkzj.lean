import Derived.Test.YthgbhnedfdnfpaaGreatDoorPkh
import Derived.Test.YthgbhnedfdnfpaaGreatDoorPkt
import Derived.Test.YthgbhnedfdnfpaaGreatDoorPky
import Derived.Test.YthgbhnedfdnfpaaGreatDoorPkzi
import Derived.Test.YthgbhnedfdnfpaaGreatDoorPkze
/- Trees of classes, plain facts (for FnTrees, FnPlacesOfLines). -/
namespace Go.Proofs.YthgbhnedfdnfpaaGreatDoor
set_option maxRecDepth 100000
set_option linter.unusedVariables false
set_option linter.unusedSimpArgs false

theorem up_kid {cs : List Cls} (T : TreeF cs) {i k : Nat} (hi : i < cs.length) (hk : k ∈ kids cs (cs.getD i cls0).i) : up cs 9 k = k :: up cs 9 i := by
  have hd := dep_kid T hi hk
  have h8 := (way_len T (kids_mem hk).1).2
  have hf := par_kid T hi hk
  have e : up cs 9 k = k :: up cs 8 i := by
    show k :: (match fnd cs (cs.getD k cls0).p with | .none => [] | .some j => up cs 8 j) = _
    rw [hf]
  have hl := congrArg List.length e
  rw [List.length_cons] at hl
  unfold depP at h8
  rw [e, up_more cs 8 i (by omega)]
theorem kidsF_tp : ∀ (l : List Cls) (a : Nat), (kidsF 0 a l).length = (l.filter (fun x => x.p == 0)).length
  | [], _ => rfl
  | y :: r, a => by
    unfold kidsF
    rw [List.filter_cons]
    by_cases h : y.p = 0
    · rw [if_pos h, if_pos (by simpa using h)]; simp [kidsF_tp r (a + 1)]
    · rw [if_neg h, if_neg (by simpa using h)]; exact kidsF_tp r (a + 1)
theorem kids_tp {cs : List Cls} (T : TreeF cs) (ht : cT cs = 1) : kids cs 0 = [topF cs] := by
  have h := topF_at cs (by omega)
  have hm := mem_kids h.1 h.2
  have hl : (kids cs 0).length = 1 := (kidsF_tp cs 0).trans ht
  match hk : kids cs 0, hl with
  | [a], _ => rw [hk] at hm; simp only [List.mem_singleton] at hm; rw [hm]
theorem par_none {cs : List Cls} (T : TreeF cs) {j : Nat} (hj : j < cs.length) (hf : fnd cs (cs.getD j cls0).p = Option.none) : (cs.getD j cls0).p = 0 := by
  have hn := T.node j hj
  unfold nodeOk at hn
  rw [Bool.and_eq_true] at hn
  have hp := way_par cs j hn.1
  unfold parOk at hp
  rw [hf] at hp
  simpa using hp
theorem one_top {cs : List Cls} (T : TreeF cs) (ht : cT cs = 1) : ∀ j, j < cs.length → fnd cs (cs.getD j cls0).p = Option.none → j = topF cs := fun j hj hf => by
  have := mem_kids hj (par_none T hj hf)
  rw [kids_tp T ht] at this
  simpa using this
end Go.Proofs.YthgbhnedfdnfpaaGreatDoor

/- Canonical texts, plain facts: where the lines lie, how parts nest, that all classes are walked once (for FnPlacesOfLines). -/
namespace Go.Proofs.YthgbhnedfdnfpaaGreatDoor
set_option maxRecDepth 100000
set_option linter.unusedVariables false
set_option linter.unusedSimpArgs false

theorem walk_suf {cs : List Cls} (T : TreeF cs) : ∀ (f i : Nat), i < cs.length → ∀ j ∈ walkP cs f i, ∃ p, up cs 9 j = p ++ up cs 9 i
  | 0, _, _, j, h => by simp [walkP] at h
  | f + 1, i, hi, j, h => by
    unfold walkP at h
    rcases List.mem_cons.1 h with h | h
    · subst h; exact ⟨[], rfl⟩
    · obtain ⟨k, hk, hkm⟩ := List.mem_flatMap.1 h
      obtain ⟨p, hp⟩ := walk_suf T f k (kids_mem hk).1 j hkm
      exact ⟨p ++ [k], by rw [hp, up_kid T hi hk]; simp⟩
theorem flat_nodup {α β : Type} {f : α → List β} : ∀ (l : List α), l.Nodup → (∀ a ∈ l, (f a).Nodup) → (∀ a ∈ l, ∀ b ∈ l, a ≠ b → ∀ x, x ∈ f a → x ∈ f b → False) → (l.flatMap f).Nodup
  | [], _, _, _ => List.nodup_nil
  | a :: r, hn, h1, h2 => by
    rw [List.flatMap_cons]
    have hna := List.nodup_cons.1 hn
    refine List.nodup_append.2 ⟨h1 a (by simp), flat_nodup r hna.2 (fun b hb => h1 b (by simp [hb])) (fun b hb c hc => h2 b (by simp [hb]) c (by simp [hc])), ?_⟩
    intro x hx y hy e
    subst e
    obtain ⟨b, hb, hxb⟩ := List.mem_flatMap.1 hy
    exact h2 a (by simp) b (by simp [hb]) (fun e => hna.1 (e ▸ hb)) x hx hxb
theorem walk_nodup {cs : List Cls} (T : TreeF cs) : ∀ (f i : Nat), i < cs.length → (walkP cs f i).Nodup
  | 0, _, _ => List.nodup_nil
  | f + 1, i, hi => by
    unfold walkP
    refine List.nodup_cons.2 ⟨fun h => ?_, ?_⟩
    · obtain ⟨k, hk, hkm⟩ := List.mem_flatMap.1 h
      obtain ⟨p, hp⟩ := walk_suf T f k (kids_mem hk).1 i hkm
      rw [up_kid T hi hk] at hp
      have := congrArg List.length hp
      simp only [List.length_append, List.length_cons] at this
      omega
    · refine flat_nodup _ (kids_nodup cs _) (fun k hk => walk_nodup T f k (kids_mem hk).1) ?_
      intro a ha b hb hab x hxa hxb
      obtain ⟨p, hp⟩ := walk_suf T f a (kids_mem ha).1 x hxa
      obtain ⟨q, hq⟩ := walk_suf T f b (kids_mem hb).1 x hxb
      rw [up_kid T hi ha] at hp
      rw [up_kid T hi hb, hp] at hq
      have hl : p.length = q.length := by
        have := congrArg List.length hq
        simp only [List.length_append, List.length_cons] at this
        omega
      have := (List.append_inj hq hl).2
      exact hab (List.cons.inj this).1
theorem walk_all {cs : List Cls} (T : TreeF cs) (ht : cT cs = 1) : (walkP cs 8 (topF cs)).length = cs.length := by
  have h := (List.perm_ext_iff_of_nodup (walk_nodup T 8 (topF cs) (top_facts T ht).1) (List.nodup_range (n := cs.length))).2 (fun j => by
    rw [List.mem_range]
    exact ⟨fun hj => walk_lt 8 (topF cs) (top_facts T ht).1 j hj, fun hj => walk_in T hj (one_top T ht)⟩)
  rw [h.length_eq, List.length_range]

theorem has_kids {cs : List Cls} {id : Int} {k : Nat} (h : k ∈ kids cs id) : hasK cs id = true := by
  cases hk : hasK cs id
  · rw [leaf_kids hk] at h; simp at h
  · rfl
theorem sum_cut (g : Nat → Nat) (a : List Nat) (k : Nat) (b : List Nat) : ((a ++ k :: b).map g).sum = (a.map g).sum + g k + (b.map g).sum := by
  simp [List.sum_append]; omega
theorem size_pos {cs : List Cls} (f i : Nat) : 1 ≤ sizeP cs (f + 1) i := by
  unfold sizeP
  split <;> omega
theorem part_in {cs : List Cls} (T : TreeF cs) {i p : Nat} (hi : i < cs.length) (hf : fnd cs (cs.getD i cls0).p = Option.some p) :
    lineP cs 9 p < lineP cs 9 i ∧ lineP cs 9 i + sizeP cs 9 i < lineP cs 9 p + sizeP cs 9 p := by
  have hp := fnd_get cs _ p hf
  have hk : i ∈ kids cs (cs.getD p cls0).i := mem_kids hi hp.2.symm
  obtain ⟨a, b, hab⟩ := List.append_of_mem hk
  have hl := lineP_kid T hp.1 a b hab
  have hdi := dep_kid T hp.1 hk
  have h8 := (way_len T hi).2
  have e : sizeP cs 9 p = 2 + ((kids cs (cs.getD p cls0).i).map (sizeP cs 8)).sum := by
    show (if hasK cs (cs.getD p cls0).i then 2 + ((kids cs (cs.getD p cls0).i).map (sizeP cs 8)).sum else 1) = _
    rw [has_kids hk]; rfl
  rw [map_same (f := sizeP cs 8) (g := sizeP cs 9) _ (fun k hkk => sizeP_nine T (kids_mem hkk).1 1 8 rfl (by have := dep_kid T hp.1 hkk; have := (way_len T hp.1).1; omega)), hab, sum_cut] at e
  omega

def P10 (t : ByteArray) : Prop := ∀ b ∈ t.data.toList, b ≠ 10
def LineQ (t : ByteArray) : Prop := ∃ u, t = u ++ ⟨#[10]⟩ ∧ P10 u
theorem P10.app {a b : ByteArray} (ha : P10 a) (hb : P10 b) : P10 (a ++ b) := by
  intro x hx
  rw [ByteArray.data_append, Array.toList_append] at hx
  rcases List.mem_append.1 hx with h | h
  · exact ha x h
  · exact hb x h
theorem p10_lit (l : List UInt8) (h : l.all (fun b => b != 10) = true) : P10 ⟨l.toArray⟩ := by
  intro x hx
  have := List.all_eq_true.1 h x hx
  simpa using this
theorem p10_ind (n : Nat) : P10 (indS n) := by
  induction n with
  | zero => intro x hx; rw [indS_zero] at hx; simp at hx
  | succ n ih => rw [← indS_succ]; exact ih.app (p10_lit [32, 32] (by decide))
theorem p10_dig (m : Nat) (h : m < 10) : P10 (strOfNums [48 + (m : Int)]) := by
  have : ∀ m : Fin 10, (strOfNums [48 + ((m.val : Nat) : Int)]).data.toList.all (fun b => b != 10) = true := by decide
  intro x hx
  have := List.all_eq_true.1 (this ⟨m, h⟩) x hx
  simpa using this
theorem p10_num (n : Nat) : P10 (numS n) := by
  induction n using Nat.strongRecOn with
  | _ n ih =>
    by_cases h : n < 10
    · rw [numS_small n h]; exact p10_dig n h
    · rw [numS_big n (by omega)]
      refine (ih (n / 10) (by omega)).app ?_
      rw [show (n : Int) % 10 = ((n % 10 : Nat) : Int) by omega]
      exact p10_dig (n % 10) (by omega)
theorem p10_head (n : Nat) : P10 (headS n) := by
  have q1 : P10 (mF n) := by unfold mF; exact (p10_num _).app (p10_lit _ (by decide))
  have q2 : P10 (kF n) := by unfold kF; exact (p10_num _).app (p10_lit _ (by decide))
  have q3 := p10_num n
  unfold headS formsL preL
  cases isM n
  · cases isK n
    · exact q3
    · exact q2
  · cases isK n <;> exact q1
theorem p10_headN (ni nr ne nb nu no : Nat) : P10 (headN ni nr ne nb nu no) := by
  unfold headN
  refine P10.app (P10.app (P10.app (P10.app (P10.app (P10.app (P10.app (P10.app (P10.app (P10.app (P10.app ?_ (p10_num _)) ?_) (p10_head _)) ?_) (p10_head _)) ?_) (p10_head _)) ?_) (p10_head _)) ?_) (p10_num _) <;> exact p10_lit _ (by decide)
theorem LineQ.mk2 {u t : ByteArray} (a b : List UInt8) (hu : P10 u) (h : t = u ++ ⟨(a ++ [10]).toArray⟩) (ha : a.all (fun b => b != 10) = true) : LineQ t := by
  refine ⟨u ++ ⟨a.toArray⟩, ?_, hu.app (p10_lit a ha)⟩
  rw [h]
  apply bytes_exP
  simp [ByteArray.data_append]
theorem lines_q (cs : List Cls) : ∀ (f l i : Nat), ∀ t ∈ linesP cs f l i, LineQ t
  | 0, _, _, t, h => by simp [linesP] at h
  | f + 1, l, i, t, h => by
    unfold linesP at h
    have hh : P10 (headT (cs.getD i cls0)) := p10_headN _ _ _ _ _ _
    by_cases hk : hasK cs (cs.getD i cls0).i = true
    · rw [if_pos hk] at h
      rcases List.mem_cons.1 h with h | h
      · exact LineQ.mk2 (u := indS l ++ headT (cs.getD i cls0)) [32, 123] [] ((p10_ind l).app hh) h (by decide)
      · rcases List.mem_append.1 h with h | h
        · obtain ⟨k, _, hkm⟩ := List.mem_flatMap.1 h
          exact lines_q cs f (l + 1) k t hkm
        · simp only [List.mem_singleton] at h
          exact LineQ.mk2 (u := indS l) [125] [] (p10_ind l) h (by decide)
    · rw [if_neg hk] at h
      simp only [List.mem_singleton] at h
      exact LineQ.mk2 (u := indS l ++ headT (cs.getD i cls0) ++ ⟨#[32, 108, 105, 109, 105, 116, 32]⟩ ++ headS (cs.getD i cls0).l.toNat) [59] [] ((((p10_ind l).app hh).app (p10_lit [32, 108, 105, 109, 105, 116, 32] (by decide))).app (p10_head _)) h (by decide)

theorem line_at {cs : List Cls} (T : TreeF cs) : ∀ (f l i : Nat), i < cs.length → f ≤ 9 → 9 ≤ f + depP cs i → ∀ j ∈ walkP cs f i,
    ∃ d l' R, lineP cs 9 j = lineP cs 9 i + d ∧ d + sizeP cs 9 j ≤ sizeP cs 9 i ∧ (linesP cs f l i)[d]? = some (indS l' ++ headT (cs.getD j cls0) ++ R)
  | 0, _, _, _, _, _, j, h => by simp [walkP] at h
  | f + 1, l, i, hi, hf9, hd, j, h => by
    unfold walkP at h
    rcases List.mem_cons.1 h with h | h
    · subst h
      by_cases hk : hasK cs (cs.getD j cls0).i = true
      · refine ⟨0, l, ⟨#[32, 123, 10]⟩, rfl, by omega, ?_⟩
        unfold linesP
        rw [if_pos hk]
        rfl
      · refine ⟨0, l, ⟨#[32, 108, 105, 109, 105, 116, 32]⟩ ++ headS (cs.getD j cls0).l.toNat ++ ⟨#[59, 10]⟩, rfl, by omega, ?_⟩
        unfold linesP
        rw [if_neg hk]
        simp only [List.getElem?_cons_zero, app_asP]
    · obtain ⟨k, hk, hkm⟩ := List.mem_flatMap.1 h
      have hdk := dep_kid T hi hk
      obtain ⟨d, l', R, e1, e2, e3⟩ := line_at T f (l + 1) k (kids_mem hk).1 (by omega) (by omega) j hkm
      obtain ⟨a, b, hab⟩ := List.append_of_mem hk
      have hl := lineP_kid T hi a b hab
      have hsame : ∀ K : List Nat, (∀ y ∈ K, y ∈ kids cs (cs.getD i cls0).i) → (K.map (sizeP cs f)).sum = (K.map (sizeP cs 9)).sum := fun K hK => by
        rw [map_same (f := sizeP cs f) (g := sizeP cs 9) _ (fun y hy => sizeP_nine T (kids_mem (hK y hy)).1 (9 - f) f (by have := (way_len T hi).1; have := (way_len T (kids_mem hk).1).2; omega) (by have := dep_kid T hi (hK y hy); omega))]
      have hsi : sizeP cs 9 i = 2 + (a.map (sizeP cs 9)).sum + sizeP cs 9 k + (b.map (sizeP cs 9)).sum := by
        have hfi : sizeP cs (f + 1) i = sizeP cs 9 i := sizeP_nine T hi (9 - (f + 1)) (f + 1) (by have := (way_len T hi).1; have := (way_len T (kids_mem hk).1).2; omega) hd
        rw [← hfi]
        show (if hasK cs (cs.getD i cls0).i then 2 + ((kids cs (cs.getD i cls0).i).map (sizeP cs f)).sum else 1) = _
        rw [has_kids hk, if_pos rfl, hsame _ (fun y hy => hy), hab, sum_cut]
        omega
      refine ⟨1 + (a.map (sizeP cs 9)).sum + d, l', R, by omega, by omega, ?_⟩
      have hflen : ∀ K : List Nat, (K.flatMap (linesP cs f (l + 1))).length = (K.map (sizeP cs f)).sum := fun K => by
        induction K with
        | nil => rfl
        | cons y r ih => simp [linesP_len cs f (l + 1) y, ih]
      have ha : (a.flatMap (linesP cs f (l + 1))).length = (a.map (sizeP cs 9)).sum := by
        rw [hflen, hsame a (fun y hy => by rw [hab]; simp [hy])]
      have hdl : d < (linesP cs f (l + 1) k).length := (List.getElem?_eq_some_iff.1 e3).1
      unfold linesP
      rw [has_kids hk, if_pos rfl, hab, List.flatMap_append, List.flatMap_cons, show 1 + (a.map (sizeP cs 9)).sum + d = ((a.map (sizeP cs 9)).sum + d) + 1 by omega, List.getElem?_cons_succ, List.append_assoc, List.getElem?_append_right (by omega), ha, show (a.map (sizeP cs 9)).sum + d - (a.map (sizeP cs 9)).sum = d by omega, List.append_assoc, List.getElem?_append_left hdl]
      exact e3
def allT (c : Cfg) : List ByteArray := [begS c.s c.d ++ ⟨#[32, 123, 10]⟩] ++ linesP c.cs 8 1 (topF c.cs) ++ filtL c.fs ++ [⟨#[125, 10]⟩]
theorem allT_text (c : Cfg) : catS (allT c) = textP c := by
  unfold allT textP partT
  rw [catS_append, catS_append, catS_append, catS_one, catS_one]
  simp only [app_asP]
theorem p10_name {s : ByteArray} (h : nmG s = true) : P10 s := by
  intro x hx
  unfold nmG at h
  simp only [Bool.and_eq_true] at h
  have h1 := List.all_eq_true.1 h.1.1 x hx
  intro e
  subst e
  exact absurd h1 (by decide)
theorem p10_beg {s : ByteArray} {d : Int} (h : nmG s = true) : P10 (begS s d) := by
  unfold begS
  split
  · exact (p10_lit [113, 100, 105, 115, 99, 32] (by decide)).app (p10_name h)
  · exact ((p10_lit [113, 100, 105, 115, 99, 32] (by decide)).app (p10_name h)).app ((p10_lit [32, 100, 101, 102, 97, 117, 108, 116, 32] (by decide)).app (p10_num _))
theorem all_q {c : Cfg} (hn : nmG c.s = true) (k : Nat) (hk : k < 1 + sizeP c.cs 8 (topF c.cs)) (t : ByteArray) (ht : (allT c)[k]? = some t) : LineQ t := by
  unfold allT at ht
  rw [List.append_assoc, List.append_assoc] at ht
  match k with
  | 0 =>
    simp only [List.cons_append, List.getElem?_cons_zero, Option.some.injEq] at ht
    exact LineQ.mk2 (u := begS c.s c.d) [32, 123] [] (p10_beg hn) ht.symm (by decide)
  | k + 1 =>
    simp only [List.cons_append, List.nil_append, List.getElem?_cons_succ] at ht
    rw [List.getElem?_append_left (by rw [linesP_len]; omega)] at ht
    exact lines_q c.cs 8 1 (topF c.cs) t (List.mem_of_getElem? ht)
theorem line_all {c : Cfg} (G : GoodP c) {q : Nat} (hq : q < c.cs.length) :
    ∃ l' R, (allT c)[lineP c.cs 9 q - 1]? = some (indS l' ++ headT (c.cs.getD q cls0) ++ R) ∧ 2 ≤ lineP c.cs 9 q ∧ lineP c.cs 9 q - 1 < 1 + sizeP c.cs 8 (topF c.cs) := by
  have ht := top_facts G.T G.top
  obtain ⟨d, l', R, e1, e2, e3⟩ := line_at G.T 8 1 (topF c.cs) ht.1 (by decide) (by omega) q (walk_in G.T hq (one_top G.T G.top))
  have h2 : lineP c.cs 9 (topF c.cs) = 2 := lineP_top (by rw [ht.2.1]; exact no_zero G.T.ok)
  have hdl := (List.getElem?_eq_some_iff.1 e3).1
  have hln := linesP_len c.cs 8 1 (topF c.cs)
  refine ⟨l', R, ?_, by omega, by omega⟩
  unfold allT
  rw [e1, h2, show 2 + d - 1 = d + 1 by omega, List.append_assoc, List.append_assoc]
  simp only [List.cons_append, List.nil_append, List.getElem?_cons_succ]
  rw [List.getElem?_append_left hdl]
  exact e3

def offT (L : List ByteArray) (k : Nat) : Nat := (catS (L.take k)).size
theorem offT_zero (L : List ByteArray) : offT L 0 = 0 := by unfold offT; rw [List.take_zero]; rfl
theorem offT_succ (L : List ByteArray) (k : Nat) (t : ByteArray) (h : L[k]? = some t) : offT L (k + 1) = offT L k + t.size := by
  unfold offT
  obtain ⟨hk, he⟩ := List.getElem?_eq_some_iff.1 h
  rw [List.take_succ_eq_append_getElem hk, catS_append, catS_one, ByteArray.size_append, he]
theorem text_cut (L : List ByteArray) (k : Nat) (t : ByteArray) (h : L[k]? = some t) : catS L = catS (L.take k) ++ (t ++ catS (L.drop (k + 1))) := by
  obtain ⟨hk, he⟩ := List.getElem?_eq_some_iff.1 h
  have e : L = L.take k ++ t :: L.drop (k + 1) := by rw [← he, ← List.drop_eq_getElem_cons hk, List.take_append_drop]
  conv => lhs; rw [e, catS_append, catS_cons]
theorem byte_in (A t B : ByteArray) (m : Nat) (hm : m < t.size) : (A ++ (t ++ B)).data.toList[A.size + m]? = t.data.toList[m]? := by
  rw [ByteArray.data_append, ByteArray.data_append, Array.toList_append, Array.toList_append]
  have hA : A.data.toList.length = A.size := rfl
  rw [List.getElem?_append_right (by omega), hA, show A.size + m - A.size = m by omega, List.getElem?_append_left (by exact hm)]
theorem byte_line (L : List ByteArray) (k : Nat) (t : ByteArray) (h : L[k]? = some t) (m : Nat) (hm : m < t.size) : (catS L).data.toList[offT L k + m]? = t.data.toList[m]? := by
  rw [text_cut L k t h]
  exact byte_in _ _ _ m hm
theorem text_size_at (L : List ByteArray) (k : Nat) (t : ByteArray) (h : L[k]? = some t) : offT L k + t.size ≤ (catS L).size := by
  rw [text_cut L k t h]
  simp only [ByteArray.size_append]
  unfold offT
  omega
theorem line_bytes {t : ByteArray} (h : LineQ t) : 1 ≤ t.size ∧ t.data.toList[t.size - 1]? = some 10 ∧ ∀ m, m < t.size - 1 → ∃ b, t.data.toList[m]? = some b ∧ b ≠ 10 := by
  obtain ⟨u, rfl, hu⟩ := h
  have hz : (u ++ ⟨#[10]⟩ : ByteArray).size = u.size + 1 := by rw [ByteArray.size_append]; rfl
  have hul : u.data.toList.length = u.size := rfl
  refine ⟨by omega, ?_, fun m hm => ?_⟩
  · rw [hz, ByteArray.data_append, Array.toList_append, List.getElem?_append_right (by omega)]
    rw [hul, show u.size + 1 - 1 - u.size = 0 by omega]
    rfl
  · have hmu : m < u.data.toList.length := by omega
    rw [ByteArray.data_append, Array.toList_append, List.getElem?_append_left hmu]
    exact ⟨_, List.getElem?_eq_getElem hmu, hu _ (List.getElem_mem hmu)⟩
theorem ind_bytes (l : Nat) (t : ByteArray) (m : Nat) (hm : m < 2 * l) : (indS l ++ t).data.toList[m]? = some 32 := by
  have hs : (indS l).data.toList.length = 2 * l := indS_size l
  rw [ByteArray.data_append, Array.toList_append, List.getElem?_append_left (by omega)]
  have : ∀ n m : Nat, m < 2 * n → (Lib.repeatL [(32 : UInt8), 32] n)[m]? = some 32 := by
    intro n
    induction n with
    | zero => intro m h; omega
    | succ n ih =>
      intro m h
      show ([32, 32] ++ Lib.repeatL [32, 32] n)[m]? = some 32
      match m with
      | 0 => rfl
      | 1 => rfl
      | m + 2 => show (Lib.repeatL [32, 32] n)[m]? = some 32; exact ih m (by omega)
  exact this l m hm
theorem head_first (ni nr ne nb nu no : Nat) (t : ByteArray) : (headN ni nr ne nb nu no ++ t).data.toList[0]? = some 99 := by
  unfold headN
  simp [ByteArray.data_append]
end Go.Proofs.YthgbhnedfdnfpaaGreatDoor

/- What the law of trees of classes looks at: facts. -/
namespace Go.Proofs.YthgbhnedfdnfpaaGreatDoor
set_option maxRecDepth 100000
set_option linter.unusedVariables false
set_option linter.unusedSimpArgs false

theorem has_tree {c : Cfg} {q : Int} (h : hasI c q = true) : ∃ k : Nat, q = (k : Int) ∧ k < c.cs.length ∧ goodC c = true ∧ TreeF c.cs ∧ cT c.cs = 1 ∧ c.cs.length ≤ 24 := by
  obtain ⟨hg, k, rfl, hk⟩ := has_iff h
  have G := good_of hg
  exact ⟨k, rfl, hk, hg, G.tree, G.top, G.n24⟩
theorem has_of {c : Cfg} {k : Nat} (hg : goodC c = true) (hk : k < c.cs.length) : hasI c (k : Int) = true := by
  unfold hasI
  rw [hg]
  simp
  omega
end Go.Proofs.YthgbhnedfdnfpaaGreatDoor
