/- Attributes: plain functions: valid ones, the end of one, its parent, children, sizes and offsets. -/
import Derived.Test.YtgnobmmlmmbfcaaNum
namespace Go.Proofs.Ytgnobmmlmmbfcaa
set_option linter.unusedVariables false

structure At where
  d : Int
  t : Int
  n : Bool
  s : ByteArray
def at0 : At := ⟨0, 0, false, ⟨#[]⟩⟩
def gA (l : List At) (k : Nat) : At := l.getD k at0
def okA (x : At) : Bool := inB x.t 0 32767 && (if x.n then decide (x.s.size = 0) else decide (x.s.size ≤ 1000))
def nxA (x : At) : Int := if x.n then (if x.d + 1 ≤ 8 then x.d + 1 else 8) else x.d
def gdA : Int → List At → Bool
  | _, [] => true
  | m, x :: r => inB x.d 1 m && okA x && gdA (nxA x) r
def lsA (l : List At) : Bool := gdA 1 l && decide (l.length ≤ 400)
def mA (l : List At) (k : Nat) : Int := if k = 0 then 1 else nxA (gA l (k - 1))
theorem gA_eq {l : List At} {k : Nat} (h : k < l.length) : gA l k = l[k] := by unfold gA; simp [List.getD_eq_getElem?_getD, h]
theorem gdA_at (l : List At) (k : Nat) (h : k < l.length) : gdA (mA l k) (l.drop k) = (inB (gA l k).d 1 (mA l k) && okA (gA l k) && gdA (mA l (k + 1)) (l.drop (k + 1))) := by
  rw [List.drop_eq_getElem_cons h, gdA, ← gA_eq h]
  rfl
theorem gdA_end (l : List At) (k : Nat) (h : l.length ≤ k) (m : Int) : gdA m (l.drop k) = true := by rw [List.drop_eq_nil_of_le h]; rfl
/-- valid attributes -/
structure Va (l : List At) : Prop where
  len : l.length ≤ 400
  pos : ∀ k, k < l.length → 1 ≤ (gA l k).d
  top : ∀ k, k < l.length → (gA l k).d ≤ 8
  t0 : ∀ k, k < l.length → 0 ≤ (gA l k).t
  t1 : ∀ k, k < l.length → (gA l k).t ≤ 32767
  sz : ∀ k, k < l.length → (gA l k).s.size ≤ 1000
  nz : ∀ k, k < l.length → (gA l k).n = true → (gA l k).s.size = 0
  fst : 0 < l.length → (gA l 0).d = 1
  up : ∀ k, k + 1 < l.length → (gA l (k + 1)).d ≤ (gA l k).d + 1
  flat : ∀ k, k + 1 < l.length → (gA l k).n = false → (gA l (k + 1)).d ≤ (gA l k).d
theorem nxA_le {x : At} : nxA x ≤ if x.n then x.d + 1 else x.d := by unfold nxA; split <;> (try split) <;> omega
theorem nxA_8 {x : At} (h : x.d ≤ 8) : nxA x ≤ 8 := by unfold nxA; split <;> (try split) <;> omega
theorem gd_all : ∀ (l : List At) (m : Int), gdA m l = true → m ≤ 8 → (∀ k, k < l.length → 1 ≤ (gA l k).d ∧ (gA l k).d ≤ 8 ∧ okA (gA l k) = true) ∧ (0 < l.length → (gA l 0).d ≤ m) ∧ ∀ k, k + 1 < l.length → (gA l (k + 1)).d ≤ nxA (gA l k)
  | [], _, _, _ => ⟨fun k h => absurd h (by simp), fun h => absurd h (by simp), fun k h => absurd h (by simp)⟩
  | x :: r, m, h, hm => by
    unfold gdA inB at h
    simp only [Bool.and_eq_true, decide_eq_true_eq] at h
    obtain ⟨⟨⟨h1, h2⟩, h3⟩, h4⟩ := h
    obtain ⟨a, b, c⟩ := gd_all r (nxA x) h4 (nxA_8 (by omega))
    refine ⟨fun k hk => ?_, fun _ => h2, fun k hk => ?_⟩
    · match k, hk with
      | 0, _ => exact ⟨h1, (by show x.d ≤ 8; omega), h3⟩
      | k + 1, hk => exact a k (by simpa using hk)
    · match k, hk with
      | 0, hk => exact b (by simpa using hk)
      | k + 1, hk => exact c k (by simpa using hk)
theorem okA_facts {x : At} (h : okA x = true) : 0 ≤ x.t ∧ x.t ≤ 32767 ∧ x.s.size ≤ 1000 ∧ (x.n = true → x.s.size = 0) := by
  unfold okA inB at h
  cases hn : x.n <;> rw [hn] at h <;> simp only [Bool.and_eq_true, decide_eq_true_eq, if_true, Bool.false_eq_true, if_false] at h
  · exact ⟨h.1.1, h.1.2, h.2, fun h => by cases h⟩
  · exact ⟨h.1.1, h.1.2, by omega, fun _ => h.2⟩
theorem va {l : List At} (h : lsA l = true) : Va l := by
  unfold lsA at h
  simp only [Bool.and_eq_true, decide_eq_true_eq] at h
  obtain ⟨a, b, c⟩ := gd_all l 1 h.1 (by omega)
  have f := fun k hk => okA_facts (a k hk).2.2
  refine ⟨h.2, fun k hk => (a k hk).1, fun k hk => (a k hk).2.1, fun k hk => (f k hk).1, fun k hk => (f k hk).2.1, fun k hk => (f k hk).2.2.1, fun k hk => (f k hk).2.2.2, fun hk => ?_, fun k hk => ?_, fun k hk hn => ?_⟩
  · have := b hk; have := (a 0 hk).1; omega
  · have := c k hk; have q := nxA_le (x := gA l k); split at q <;> omega
  · have := c k hk; have q := nxA_le (x := gA l k); rw [hn] at q; simp at q; omega
theorem mA_8 {l : List At} (V : Va l) (k : Nat) (h : k ≤ l.length) : mA l k ≤ 8 := by
  unfold mA
  split
  · omega
  · exact nxA_8 (V.top _ (by omega))
/-! The end of an attribute. -/
def runG (l : List At) (c : Int) : Nat → Nat → Nat
  | 0, k => k
  | f + 1, k => if k < l.length ∧ c < (gA l k).d then runG l c f (k + 1) else k
def enA (l : List At) (i : Nat) : Nat := runG l (gA l i).d l.length (i + 1)
def IsEn (l : List At) (i e : Nat) : Prop := i < e ∧ e ≤ l.length ∧ (∀ k, i < k → k < e → (gA l i).d < (gA l k).d) ∧ (e < l.length → (gA l e).d ≤ (gA l i).d)
theorem runG_is (l : List At) (c : Int) : ∀ f k, k ≤ l.length → l.length ≤ k + f → k ≤ runG l c f k ∧ runG l c f k ≤ l.length ∧ (∀ j, k ≤ j → j < runG l c f k → c < (gA l j).d) ∧ (runG l c f k < l.length → (gA l (runG l c f k)).d ≤ c)
  | 0, k, h0, h1 => ⟨Nat.le_refl _, h0, fun j a b => absurd b (by unfold runG; omega), fun h => absurd h (by unfold runG; omega)⟩
  | f + 1, k, h0, h1 => by
    by_cases h : k < l.length ∧ c < (gA l k).d
    · have e : runG l c (f + 1) k = runG l c f (k + 1) := by rw [runG, if_pos h]
      obtain ⟨a, b, d, g⟩ := runG_is l c f (k + 1) (by omega) (by omega)
      rw [e]
      refine ⟨by omega, b, fun j hj hj2 => ?_, g⟩
      rcases Nat.eq_or_lt_of_le hj with rfl | hj
      · exact h.2
      · exact d j hj hj2
    · have e : runG l c (f + 1) k = k := by rw [runG, if_neg h]
      rw [e]
      exact ⟨Nat.le_refl _, h0, fun j a b => absurd b (by omega), fun hk => by
        by_cases q : c < (gA l k).d
        · exact absurd ⟨hk, q⟩ h
        · omega⟩
theorem enA_is {l : List At} {i : Nat} (h : i < l.length) : IsEn l i (enA l i) := by
  obtain ⟨a, b, c, d⟩ := runG_is l (gA l i).d l.length (i + 1) (by omega) (by omega)
  exact ⟨by unfold enA; omega, b, fun k hk hk2 => c k (by omega) hk2, d⟩
theorem en_one {l : List At} {i e e' : Nat} (h : IsEn l i e) (h' : IsEn l i e') : e = e' := by
  obtain ⟨a, b, c, d⟩ := h
  obtain ⟨a', b', c', d'⟩ := h'
  rcases Nat.lt_trichotomy e e' with q | q | q
  · have := d (by omega); have := c' e a q; omega
  · exact q
  · have := d' (by omega); have := c e' a' q; omega
theorem en_eq {l : List At} {i e : Nat} (h : IsEn l i e) : e = enA l i := en_one h (enA_is (by obtain ⟨a, b, _⟩ := h; omega))
theorem en_in {l : List At} {i k : Nat} (hi : i < l.length) (h1 : i < k) (h2 : k < enA l i) : enA l k ≤ enA l i := by
  obtain ⟨a, b, c, d⟩ := enA_is hi
  obtain ⟨a', b', c', d'⟩ := enA_is (show k < l.length by omega)
  refine Nat.not_lt.1 fun q => ?_
  have := d (by omega)
  have := c' _ h2 q
  have := c k h1 h2
  omega
theorem en_flat {l : List At} (V : Va l) {i : Nat} (hi : i < l.length) (hn : (gA l i).n = false) : enA l i = i + 1 := by
  refine (en_eq ⟨by omega, by omega, fun k _ _ => absurd ‹_› (by omega), fun h => V.flat i h hn⟩).symm
/-! The parent. -/
def upG (l : List At) (c : Int) : Nat → Int
  | 0 => -1
  | k + 1 => if (gA l k).d < c then (k : Int) else upG l c k
def upA (l : List At) (i : Nat) : Int := upG l (gA l i).d i
theorem upG_is (l : List At) (c : Int) : ∀ i, -1 ≤ upG l c i ∧ upG l c i < (i : Int) ∧ (∀ k : Nat, upG l c i < k → k < i → c ≤ (gA l k).d) ∧ (0 ≤ upG l c i → (gA l (upG l c i).toNat).d < c)
  | 0 => ⟨by simp [upG], by simp [upG], fun k _ h => absurd h (by omega), fun h => absurd h (by simp [upG])⟩
  | i + 1 => by
    by_cases h : (gA l i).d < c
    · have e : upG l c (i + 1) = (i : Int) := by rw [upG, if_pos h]
      rw [e]
      exact ⟨by omega, by omega, fun k a b => absurd a (by omega), fun _ => by rw [Int.toNat_natCast]; exact h⟩
    · have e : upG l c (i + 1) = upG l c i := by rw [upG, if_neg h]
      obtain ⟨a, b, d, g⟩ := upG_is l c i
      rw [e]
      refine ⟨a, by omega, fun k hk hk2 => ?_, g⟩
      rcases Nat.lt_succ_iff_lt_or_eq.1 hk2 with q | q
      · exact d k hk q
      · rw [q]; omega
theorem up_top {l : List At} (V : Va l) {i : Nat} (hi : i < l.length) (h1 : (gA l i).d = 1) : upA l i = -1 := by
  obtain ⟨a, b, c, d⟩ := upG_is l (gA l i).d i
  refine Int.le_antisymm (Int.not_lt.1 fun q => ?_) a
  have := d (by unfold upA at q; omega)
  have := V.pos (upG l (gA l i).d i).toNat (by omega)
  omega
theorem up_some {l : List At} (V : Va l) {i : Nat} (hi : i < l.length) (h1 : (gA l i).d ≠ 1) : 0 ≤ upA l i := by
  obtain ⟨a, b, c, d⟩ := upG_is l (gA l i).d i
  refine Int.not_lt.1 fun q => ?_
  unfold upA at q
  have h0 : i ≠ 0 := fun h => h1 (by rw [h]; exact V.fst (by omega))
  have := c 0 (by omega) (by omega)
  have := V.fst (by omega)
  have := V.pos i hi
  omega
/-- going down, the first smaller Depth is one less -/
theorem step_down {l : List At} (V : Va l) {c : Int} {k : Nat} (hk : k + 1 < l.length) (h : c ≤ (gA l (k + 1)).d) (hc : ¬ c ≤ (gA l k).d) : (gA l k).d = c - 1 := by
  have := V.up k hk
  omega
theorem up_depth {l : List At} (V : Va l) {i : Nat} (hi : i < l.length) (h : 0 ≤ upA l i) : (gA l (upA l i).toNat).d = (gA l i).d - 1 := by
  obtain ⟨a, b, c, d⟩ := upG_is l (gA l i).d i
  unfold upA at h ⊢
  have q := d h
  refine step_down V (by omega) ?_ (by omega)
  by_cases e : (upG l (gA l i).d i).toNat + 1 = i
  · rw [e]; exact Int.le_refl _
  · exact c _ (by omega) (by omega)
/-! Sizes. -/
def padA (n : Nat) : Nat := (n + 3) / 4 * 4
def ofA (l : List At) (k : Nat) : Nat := ((l.take k).map (fun x => padA (4 + x.s.size))).sum
theorem ofA_zero (l : List At) : ofA l 0 = 0 := rfl
theorem ofA_succ {l : List At} {k : Nat} (h : k < l.length) : ofA l (k + 1) = ofA l k + padA (4 + (gA l k).s.size) := by
  unfold ofA
  rw [List.take_succ_eq_append_getElem h, List.map_append, List.sum_append, gA_eq h]
  simp
theorem ofA_mono {l : List At} : ∀ {j k : Nat}, j ≤ k → k ≤ l.length → ofA l j ≤ ofA l k := by
  intro j k h hk
  induction k with
  | zero => rw [Nat.le_zero.1 h]; exact Nat.le_refl _
  | succ k ih =>
    rcases Nat.lt_or_eq_of_le h with q | q
    · rw [ofA_succ (by omega)]; have := ih (by omega) (by omega); omega
    · rw [q]; exact Nat.le_refl _
theorem ofA_le {l : List At} (V : Va l) : ∀ k, k ≤ l.length → ofA l k ≤ k * 1004
  | 0, _ => Nat.le_refl _
  | k + 1, h => by
    have := ofA_le V k (by omega)
    have := V.sz k (by omega)
    rw [ofA_succ (by omega)]
    unfold padA
    omega
theorem of_nested {l : List At} (V : Va l) {i : Nat} (hi : i < l.length) (hn : (gA l i).n = true) : ofA l (i + 1) = ofA l i + 4 := by
  rw [ofA_succ hi, V.nz i hi hn]
  rfl
def szA (l : List At) (i : Nat) : Nat := ofA l (enA l i) - ofA l i
theorem sz_flat {l : List At} (V : Va l) {i : Nat} (hi : i < l.length) (hn : (gA l i).n = false) : szA l i = padA (4 + (gA l i).s.size) := by
  unfold szA
  rw [en_flat V hi hn, ofA_succ hi]
  omega
theorem sz_nested {l : List At} (V : Va l) {i : Nat} (hi : i < l.length) (hn : (gA l i).n = true) : szA l i = 4 + (ofA l (enA l i) - ofA l (i + 1)) := by
  have h := of_nested V hi hn
  obtain ⟨a, b, _⟩ := enA_is hi
  have := ofA_mono (l := l) (show i + 1 ≤ enA l i by omega) b
  unfold szA
  omega
theorem of_end {l : List At} {i : Nat} (hi : i < l.length) : ofA l (enA l i) = ofA l i + szA l i := by
  obtain ⟨a, b, _⟩ := enA_is hi
  have := ofA_mono (l := l) (show i ≤ enA l i by omega) b
  unfold szA
  omega
/-- a walk from one index to another goes through -/
def Thru (l : List At) (p q : Nat) : Prop := p ≤ q ∧ q ≤ l.length ∧ ∀ k, p ≤ k → k < q → enA l k ≤ q
theorem thru_all (l : List At) : Thru l 0 l.length := ⟨Nat.zero_le _, Nat.le_refl _, fun k _ h => (enA_is h).2.1⟩
theorem thru_in {l : List At} {i : Nat} (hi : i < l.length) : Thru l (i + 1) (enA l i) := by
  obtain ⟨a, b, _⟩ := enA_is hi
  exact ⟨a, b, fun k h1 h2 => en_in hi (by omega) h2⟩
theorem thru_up {l : List At} {i : Nat} (hi : i < l.length) : Thru l (upA l i + 1).toNat i := by
  obtain ⟨a, b, c, d⟩ := upG_is l (gA l i).d i
  unfold upA
  refine ⟨by omega, by omega, fun k h1 h2 => Nat.not_lt.1 fun q => ?_⟩
  have := c k (by omega) h2
  have := (enA_is (show k < l.length by omega)).2.2.1 i h2 q
  omega
theorem Thru.next {l : List At} {p q : Nat} (h : Thru l p q) (hp : p < q) : Thru l (enA l p) q := by
  obtain ⟨a, b, c⟩ := h
  have := (enA_is (show p < l.length by omega)).1
  exact ⟨c p (Nat.le_refl _) hp, b, fun k h1 h2 => c k (by omega) h2⟩
theorem up_nested {l : List At} (V : Va l) {i : Nat} (hi : i < l.length) (h : 0 ≤ upA l i) : (gA l (upA l i).toNat).n = true := by
  obtain ⟨a, b, c, d⟩ := upG_is l (gA l i).d i
  unfold upA at h ⊢
  have q := d h
  cases hn : (gA l (upG l (gA l i).d i).toNat).n
  · have := V.flat _ (by omega) hn
    have : (gA l i).d ≤ (gA l ((upG l (gA l i).d i).toNat + 1)).d := by
      by_cases e : (upG l (gA l i).d i).toNat + 1 = i
      · rw [e]; exact Int.le_refl _
      · exact c _ (by omega) (by omega)
    omega
  · rfl
/-! Children. -/
def kidsP (l : List At) (i k : Nat) : List Int := ((List.range k).filter (fun j => decide (i < j ∧ (gA l j).d = (gA l i).d + 1))).map (fun j : Nat => (j : Int))
def kidsA (l : List At) (i : Nat) : List Int := kidsP l i (enA l i)
theorem kidsP_succ (l : List At) (i k : Nat) : kidsP l i (k + 1) = kidsP l i k ++ if i < k ∧ (gA l k).d = (gA l i).d + 1 then [(k : Int)] else [] := by
  unfold kidsP
  rw [List.range_succ, List.filter_append, List.map_append]
  by_cases h : i < k ∧ (gA l k).d = (gA l i).d + 1
  · simp [h]
  · simp [h]
theorem kidsP_start (l : List At) (i : Nat) : kidsP l i (i + 1) = [] := by
  unfold kidsP
  rw [List.map_eq_nil_iff, List.filter_eq_nil_iff]
  intro j hj
  simp at hj ⊢
  omega
theorem kidsP_same {l : List At} {i k e : Nat} (hke : k ≤ e) (h : ∀ j, k ≤ j → j < e → (gA l j).d ≠ (gA l i).d + 1) : kidsP l i e = kidsP l i k := by
  induction e with
  | zero => rw [Nat.le_zero.1 hke]
  | succ e ih =>
    rcases Nat.lt_or_eq_of_le hke with q | q
    · rw [kidsP_succ, ih (by omega) (fun j a b => h j a (by omega)), if_neg (fun x => h e (by omega) (by omega) x.2), List.append_nil]
    · rw [q]
theorem kid_first {l : List At} (V : Va l) {i : Nat} (hi : i < l.length) (h : i + 1 < enA l i) : (gA l (i + 1)).d = (gA l i).d + 1 := by
  obtain ⟨a, b, c, d⟩ := enA_is hi
  have := c (i + 1) (by omega) h
  have := V.up i (by omega)
  omega
/-- behind a child comes another one, or the end -/
theorem kid_next {l : List At} (V : Va l) {i k : Nat} (hi : i < l.length) (hk : i < k) (hk2 : k < enA l i) (hd : (gA l k).d = (gA l i).d + 1) :
    kidsP l i (enA l k) = kidsP l i k ++ [(k : Int)] ∧ enA l k ≤ enA l i ∧ (enA l k < enA l i → (gA l (enA l k)).d = (gA l i).d + 1) := by
  obtain ⟨a, b, c, d⟩ := enA_is hi
  obtain ⟨a', b', c', d'⟩ := enA_is (show k < l.length by omega)
  refine ⟨?_, en_in hi hk hk2, fun h => ?_⟩
  · rw [kidsP_same (k := k + 1) a' (fun j h1 h2 => by have := c' j (by omega) h2; omega), kidsP_succ, if_pos ⟨hk, hd⟩]
  · have := c (enA l k) (by omega) h
    have := d' (by omega)
    omega
theorem kidsP_len (l : List At) (i k : Nat) : (kidsP l i k).length ≤ k := by
  unfold kidsP
  rw [List.length_map]
  exact Nat.le_trans (List.length_filter_le _ _) (by simp)
end Go.Proofs.Ytgnobmmlmmbfcaa
