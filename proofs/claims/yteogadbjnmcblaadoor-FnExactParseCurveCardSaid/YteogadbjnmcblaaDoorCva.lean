/- Curves of two straight pieces: plain functions and facts. -/
import Derived.Test.YteogadbjnmcblaaDoorNum
namespace Go.Proofs.YteogadbjnmcblaaDoor
set_option maxRecDepth 100000
open Go.RowKit
set_option linter.unusedVariables false

structure Cv where
  f : Int
  l : Int
  s : Int
def cv0 : Cv := ⟨0, 0, 0⟩
def goodV (c : Cv) : Bool := inB c.f 0 100000 && (inB c.l 0 10000 && inB c.s 0 100000)
theorem inB_iff {n lo hi : Int} : inB n lo hi = true ↔ lo ≤ n ∧ n ≤ hi := by unfold inB; simp
structure CvOk (c : Cv) : Prop where
  f0 : 0 ≤ c.f
  f1 : c.f ≤ 100000
  l0 : 0 ≤ c.l
  l1 : c.l ≤ 10000
  s0 : 0 ≤ c.s
  s1 : c.s ≤ 100000
theorem cvok {c : Cv} (h : goodV c = true) : CvOk c := by
  unfold goodV at h
  simp only [Bool.and_eq_true, inB_iff] at h
  exact ⟨h.1.1, h.1.2, h.2.1.1, h.2.1.2, h.2.2.1, h.2.2.2⟩
/-- the value at a time -/
def atV (c : Cv) (t : Int) : Int := if t ≤ c.l then c.f * t else c.f * c.l + c.s * (t - c.l)
theorem atV_in {c : Cv} {t : Int} (h : t ≤ c.l) : atV c t = c.f * t := if_pos h
theorem atV_out {c : Cv} {t : Int} (h : c.l < t) : atV c t = c.f * c.l + c.s * (t - c.l) := if_neg (by omega)
theorem atV_ge {c : Cv} {t : Int} (h : c.l ≤ t) : atV c t = c.f * c.l + c.s * (t - c.l) := by
  rcases Int.lt_or_eq_of_le h with h | h
  · exact atV_out h
  · rw [atV_in (by omega), ← h, Int.sub_self, Int.mul_zero, Int.add_zero]
theorem mul_rng {a b m : Int} (h0 : 0 ≤ a) (h1 : a ≤ 100000) (h2 : 0 ≤ b) (h3 : b ≤ m) : 0 ≤ a * b ∧ a * b ≤ 100000 * m :=
  ⟨Int.mul_nonneg h0 h2, Int.mul_le_mul h1 h3 h2 (by omega)⟩
/-- the two products, both bounded -/
theorem atV_two {c : Cv} (h : CvOk c) {t : Int} (h0 : 0 ≤ t) (h1 : t ≤ 100000) : 0 ≤ atV c t ∧ atV c t ≤ 10000000000 := by
  rcases Int.lt_or_le c.l t with q | q
  · have a := mul_rng h.f0 h.f1 h.l0 (Int.le_refl c.l)
    have b := mul_rng h.s0 h.s1 (show 0 ≤ t - c.l by omega) (Int.le_refl _)
    have := atV_out q
    omega
  · have a := mul_rng h.f0 h.f1 h0 (Int.le_refl t)
    have := atV_in q
    omega
theorem mul_mono {a b c : Int} (h : 0 ≤ a) (hb : b ≤ c) : a * b ≤ a * c := Int.mul_le_mul_of_nonneg_left hb h
theorem atV_mono {c : Cv} (h : CvOk c) {t u : Int} (h0 : 0 ≤ t) (h1 : t ≤ u) : atV c t ≤ atV c u := by
  rcases Int.lt_or_le c.l t with q | q
  · have a := mul_mono h.s0 (show t - c.l ≤ u - c.l by omega)
    have e1 := atV_out q
    have e2 := atV_out (show c.l < u by omega)
    omega
  · rcases Int.lt_or_le c.l u with r | r
    · have a := mul_mono h.f0 q
      have b := Int.mul_nonneg h.s0 (show 0 ≤ u - c.l by omega)
      have e1 := atV_in q
      have e2 := atV_out r
      omega
    · have a := mul_mono h.f0 h1
      have e1 := atV_in q
      have e2 := atV_in r
      omega
/-- a condition holds from a number on -/
def Thr (p : Int → Bool) (lo hi T : Int) : Prop := lo ≤ T ∧ T ≤ hi ∧ ∀ t, lo ≤ t → t ≤ hi → p t = decide (T ≤ t)
theorem thr_of_mono (p : Int → Bool) (lo : Int) (n : Nat) (hm : ∀ t u, lo ≤ t → t ≤ u → u ≤ lo + (n : Int) → p t = true → p u = true) (hp : p (lo + (n : Int)) = true) : ∃ T, Thr p lo (lo + (n : Int)) T := by
  induction n with
  | zero => exact ⟨lo, Int.le_refl _, by omega, fun t h0 h1 => by rw [show t = lo + ((0 : Nat) : Int) by omega, hp]; simp⟩
  | succ k ih =>
    by_cases hk : p (lo + (k : Int)) = true
    · obtain ⟨T, t0, t1, t2⟩ := ih (fun t u h0 h1 h2 => hm t u h0 h1 (by omega)) hk
      refine ⟨T, t0, by omega, fun t h0 h1 => ?_⟩
      by_cases he : t ≤ lo + (k : Int)
      · exact t2 t h0 he
      · rw [show t = lo + ((k + 1 : Nat) : Int) by omega, hp]
        simp
        omega
    · refine ⟨lo + ((k + 1 : Nat) : Int), by omega, Int.le_refl _, fun t h0 h1 => ?_⟩
      by_cases he : t ≤ lo + (k : Int)
      · have : p t = false := by
          cases hq : p t with
          | false => rfl
          | true => exact absurd (hm t _ h0 he (by omega) hq) hk
        rw [this]
        simp
        omega
      · rw [show t = lo + ((k + 1 : Nat) : Int) by omega, hp]
        simp
theorem Thr.sub {p : Int → Bool} {lo hi T : Int} (h : Thr p lo hi T) {lo' hi' : Int} (h0 : lo ≤ lo') (h1 : hi' ≤ hi) (h2 : lo' ≤ T) (h3 : T ≤ hi') : Thr p lo' hi' T := ⟨h2, h3, fun t a b => h.2.2 t (by omega) (by omega)⟩
/-! The least time. -/
def reP (c : Cv) (y : Int) (t : Int) : Bool := decide (y ≤ atV c t)
def LtS (c : Cv) (y r : Int) (k : Bool) : Prop := (goodV c && (inB y 0 20000000000 && decide (y ≤ atV c 100000))) = k ∧ (k = true → Thr (reP c y) 0 100000 r) ∧ (k = false → r = 0)
theorem ltS_ex (c : Cv) (y : Int) : ∃ r k, LtS c y r k := by
  cases h : (goodV c && (inB y 0 20000000000 && decide (y ≤ atV c 100000)))
  · exact ⟨0, false, h, by simp, fun _ => rfl⟩
  · simp only [Bool.and_eq_true, decide_eq_true_eq] at h
    have g := cvok h.1
    obtain ⟨T, hT⟩ := thr_of_mono (reP c y) 0 100000 (fun t u h0 h1 h2 hp => by
      unfold reP at hp ⊢
      have := atV_mono g h0 h1
      simp only [decide_eq_true_eq] at hp ⊢
      omega) (by unfold reP; simpa using h.2.2)
    exact ⟨T, true, by simp [h], fun _ => by simpa using hT, by simp⟩
/-! Sums. -/
def sumV : List Cv → Int → Int
  | [], _ => 0
  | c :: r, t => atV c t + sumV r t
theorem sumV_append (a b : List Cv) (t : Int) : sumV (a ++ b) t = sumV a t + sumV b t := by
  induction a with
  | nil => simp [sumV]
  | cons c r ih => simp only [List.cons_append, sumV, ih]; omega
def allV (l : List Cv) : Bool := l.all goodV
theorem sumV_rng (l : List Cv) (h : allV l = true) {t : Int} (h0 : 0 ≤ t) (h1 : t ≤ 100000) : 0 ≤ sumV l t ∧ sumV l t ≤ 10000000000 * (l.length : Int) := by
  induction l with
  | nil => simp [sumV]
  | cons c r ih =>
    unfold allV at h ih
    simp only [List.all_cons, Bool.and_eq_true] at h
    have a := ih h.2
    have b := atV_two (cvok h.1) h0 h1
    simp only [sumV, List.length_cons]
    omega
/-- a sum is at most a curve at a time -/
def fitT (l : List Cv) (c : Cv) (t : Int) : Bool := decide (sumV l t ≤ atV c t)
/-- a sum is at most a curve at all ends of pieces -/
def fitV (l : List Cv) (c : Cv) : Bool := l.all (fun x => fitT l c x.l) && (fitT l c c.l && fitT l c 100000)
theorem atV_zero {c : Cv} (h : CvOk c) : atV c 0 = 0 := by rw [atV_in h.l0, Int.mul_zero]
theorem sumV_zero (l : List Cv) (h : allV l = true) : sumV l 0 = 0 := by
  induction l with
  | nil => rfl
  | cons c r ih =>
    unfold allV at h ih
    simp only [List.all_cons, Bool.and_eq_true] at h
    simp only [sumV, ih h.2, atV_zero (cvok h.1)]
    rfl
theorem fit_zero (l : List Cv) (c : Cv) (h : allV l = true) (hc : goodV c = true) : fitT l c 0 = true := by
  unfold fitT
  rw [sumV_zero l h, atV_zero (cvok hc)]
  rfl
/-! Shapes. -/
def shp (c : Cv) : Int := if c.l = 0 then 0 else if c.f < c.s then -1 else if c.s < c.f then 1 else 0
def shortV (c : Cv) : Cv := if shp c = 0 then ⟨0, 0, c.s⟩ else c
def eqV (a b : Cv) : Bool := a.f == b.f && (a.l == b.l && a.s == b.s)
/-! The first time above. -/
def abP (a b : Cv) (t : Int) : Bool := decide (atV b t < atV a t)
/-- between two times, both curves are straight -/
def Flat (a b : Cv) (u v : Int) : Prop := (v ≤ a.l ∨ a.l ≤ u) ∧ (v ≤ b.l ∨ b.l ≤ u)
def slp (c : Cv) (u v : Int) : Int := if v ≤ c.l then c.f else c.s
theorem atV_slp {c : Cv} {u v t : Int} (h : v ≤ c.l ∨ c.l ≤ u) (h0 : u ≤ t) (h1 : t ≤ v) : atV c t = atV c u + slp c u v * (t - u) := by
  unfold slp
  by_cases q : v ≤ c.l
  · rw [if_pos q, atV_in (show t ≤ c.l by omega), atV_in (show u ≤ c.l by omega), Int.mul_sub]; omega
  · rw [if_neg q, atV_ge (show c.l ≤ t by omega), atV_ge (show c.l ≤ u by omega)]
    simp only [Int.mul_sub]
    omega
/-- on a straight piece that begins not above and ends above, one is above from a time on -/
theorem flat_thr {a b : Cv} {u v : Int} (hf : Flat a b u v) (huv : u ≤ v) (h0 : abP a b u = false) (h1 : abP a b v = true) : ∃ T, u < T ∧ Thr (abP a b) u v T := by
  obtain ⟨n, hn⟩ : ∃ n : Nat, v = u + (n : Int) := ⟨(v - u).toNat, by omega⟩
  subst hn
  have key : ∀ t, u ≤ t → t ≤ u + (n : Int) → atV a t - atV b t = (atV a u - atV b u) + (slp a u (u + (n : Int)) - slp b u (u + (n : Int))) * (t - u) := fun t q0 q1 => by
    rw [atV_slp hf.1 q0 q1, atV_slp hf.2 q0 q1, Int.sub_mul]; omega
  generalize slp a u (u + (n : Int)) - slp b u (u + (n : Int)) = k at key
  unfold abP at h0 h1
  simp only [decide_eq_false_iff_not, decide_eq_true_eq] at h0 h1
  have hk : 0 ≤ k := by
    rcases Int.lt_or_le k 0 with hk | hk
    · have := key _ huv (Int.le_refl _)
      have q := Int.mul_nonneg (show 0 ≤ -k by omega) (show 0 ≤ u + (n : Int) - u by omega)
      rw [Int.neg_mul] at q
      omega
    · exact hk
  obtain ⟨T, hT⟩ := thr_of_mono (abP a b) u n (fun t w q0 q1 q2 hp => by
    unfold abP at hp ⊢
    simp only [decide_eq_true_eq] at hp ⊢
    have e1 := key t q0 (by omega)
    have e2 := key w (by omega) q2
    have m := mul_mono hk (show t - u ≤ w - u by omega)
    omega) (by unfold abP; simpa using h1)
  refine ⟨T, ?_, hT⟩
  rcases Int.lt_or_eq_of_le hT.1 with q | q
  · exact q
  · have := hT.2.2 u (Int.le_refl _) huv
    rw [show abP a b u = false by unfold abP; simpa using h0] at this
    have := decide_eq_false_iff_not.1 this.symm
    omega
/-- nor is one above in between, if one is not at both ends -/
theorem flat_not {a b : Cv} {u v : Int} (hf : Flat a b u v) (h0 : abP a b u = false) (h1 : abP a b v = false) : ∀ t, u ≤ t → t ≤ v → abP a b t = false := by
  intro t q0 q1
  have key : ∀ t, u ≤ t → t ≤ v → atV a t - atV b t = (atV a u - atV b u) + (slp a u v - slp b u v) * (t - u) := fun t q0 q1 => by
    rw [atV_slp hf.1 q0 q1, atV_slp hf.2 q0 q1, Int.sub_mul]; omega
  generalize slp a u v - slp b u v = k at key
  unfold abP at h0 h1 ⊢
  simp only [decide_eq_false_iff_not] at h0 h1 ⊢
  have e1 := key t q0 q1
  have e2 := key v (by omega) (Int.le_refl _)
  rcases Int.lt_or_le k 0 with hk | hk
  · have q := Int.mul_nonneg (show 0 ≤ -k by omega) (show 0 ≤ t - u by omega)
    rw [Int.neg_mul] at q
    omega
  · have m := mul_mono hk (show t - u ≤ v - u by omega)
    omega
/-- joined: not above on a piece, then a number from which on one is above -/
theorem thr_join {p : Int → Bool} {lo m hi T : Int} (h0 : ∀ t, lo ≤ t → t ≤ m → p t = false) (hm : lo ≤ m) (hT : m < T) (h : Thr p m hi T) : Thr p lo hi T :=
  ⟨by omega, h.2.1, fun t q0 q1 => by
    by_cases e : t ≤ m
    · rw [h0 t q0 e]; symm; simp; omega
    · exact h.2.2 t (by omega) q1⟩
/-- the times at which pieces end: the earlier one, the later one, the last time -/
def p1 (a b : Cv) : Int := min a.l b.l
def p2 (a b : Cv) : Int := max a.l b.l
theorem flat1 (a b : Cv) : Flat a b 0 (p1 a b) := by unfold Flat p1; omega
theorem flat2 (a b : Cv) : Flat a b (p1 a b) (p2 a b) := by unfold Flat p1 p2; omega
theorem flat3 (a b : Cv) : Flat a b (p2 a b) 100000 := by unfold Flat p2; omega
structure FaR (a b : Cv) : Prop where
  a0 : 0 ≤ p1 a b
  a1 : p1 a b ≤ p2 a b
  a2 : p2 a b ≤ 10000
  z : abP a b 0 = false
theorem far {a b : Cv} (ha : goodV a = true) (hb : goodV b = true) : FaR a b := by
  have ga := cvok ha
  have gb := cvok hb
  have := ga.l0; have := ga.l1; have := gb.l0; have := gb.l1
  refine ⟨by unfold p1; omega, by unfold p1 p2; omega, by unfold p2; omega, ?_⟩
  unfold abP
  rw [atV_zero ga, atV_zero gb]
  rfl
/-- the first of the three times at which one is above -/
def endV (a b : Cv) : Option Int := if abP a b (p1 a b) then some (p1 a b) else if abP a b (p2 a b) then some (p2 a b) else if abP a b 100000 then some 100000 else none
def FaS (a b : Cv) (r : Int) (k : Bool) : Prop := (goodV a && (goodV b && (endV a b).isSome)) = k ∧ (k = true → ∃ e, endV a b = some e ∧ 0 < r ∧ Thr (abP a b) 0 e r) ∧ (k = false → r = 0)
theorem end_thr {a b : Cv} (ha : goodV a = true) (hb : goodV b = true) {e : Int} (h : endV a b = some e) : 0 ≤ e ∧ e ≤ 100000 ∧ ∃ r, 0 < r ∧ Thr (abP a b) 0 e r := by
  have F := far ha hb
  have := F.a0; have := F.a1; have := F.a2
  unfold endV at h
  by_cases h1 : abP a b (p1 a b) = true
  · rw [if_pos h1] at h
    cases h
    obtain ⟨T, t0, t1⟩ := flat_thr (flat1 a b) F.a0 F.z h1
    exact ⟨by omega, by omega, T, t0, t1⟩
  · have h1' := Bool.eq_false_iff.2 h1
    rw [if_neg h1] at h
    have n1 := flat_not (flat1 a b) F.z h1'
    by_cases h2 : abP a b (p2 a b) = true
    · rw [if_pos h2] at h
      cases h
      obtain ⟨T, t0, t1⟩ := flat_thr (flat2 a b) F.a1 h1' h2
      exact ⟨by omega, by omega, T, by omega, thr_join n1 F.a0 t0 t1⟩
    · have h2' := Bool.eq_false_iff.2 h2
      rw [if_neg h2] at h
      have n2 := flat_not (flat2 a b) h1' h2'
      by_cases h3 : abP a b 100000 = true
      · rw [if_pos h3] at h
        cases h
        obtain ⟨T, t0, t1⟩ := flat_thr (flat3 a b) (by omega) h2' h3
        refine ⟨by omega, by omega, T, by omega, thr_join (m := p2 a b) (fun t q0 q1 => ?_) (by omega) t0 t1⟩
        by_cases e : t ≤ p1 a b
        · exact n1 t q0 e
        · exact n2 t (by omega) q1
      · rw [if_neg h3] at h
        cases h
theorem faS_ex (a b : Cv) : ∃ r k, FaS a b r k := by
  cases h : (goodV a && (goodV b && (endV a b).isSome))
  · exact ⟨0, false, h, by simp, fun _ => rfl⟩
  · have h' := h
    simp only [Bool.and_eq_true] at h'
    obtain ⟨e, he⟩ := Option.isSome_iff_exists.1 h'.2.2
    obtain ⟨_, _, r, r0, hr⟩ := end_thr h'.1 h'.2.1 he
    exact ⟨r, true, h, fun _ => ⟨e, he, r0, hr⟩, by simp⟩
end Go.Proofs.YteogadbjnmcblaaDoor
