/- Ways up in any list of classes, as the model walks them and as the program does: plain functions and facts. -/
import Derived.Test.YtfijhgggljaomaaCfp
namespace Go.Proofs.Ytfijhgggljaomaa
set_option linter.unusedVariables false

def nx (cs : List Cls) (k : Nat) : Option Nat := fnd cs (cs.getD k cls0).p
theorem nx_lt {cs : List Cls} {k j : Nat} (h : nx cs k = Option.some j) : j < cs.length := (fnd_get cs _ j h).1
/-- a list without doubles below a number is no longer than it -/
theorem nodup_len : ∀ (n : Nat) (W : List Nat), W.Nodup → (∀ x ∈ W, x < n) → W.length ≤ n
  | 0, W, _, h => by
    cases W with
    | nil => simp
    | cons x r => exact absurd (h x (by simp)) (by omega)
  | n + 1, W, hd, h => by
    by_cases hn : n ∈ W
    · have h1 := nodup_len n (W.erase n) (hd.erase n) (fun x hx => by
        have := (List.Nodup.mem_erase_iff hd).1 hx
        have := h x this.2
        omega)
      rw [List.length_erase_of_mem hn] at h1
      omega
    · have := nodup_len n W hd (fun x hx => by
        have := h x hx
        have : x ≠ n := fun e => hn (e ▸ hx)
        omega)
      omega
/-- how many classes a way has, -1 where it has no end in so many steps; its last class -/
def vwN (cs : List Cls) : Nat → Nat → Nat → Int
  | 0, _, _ => -1
  | f + 1, c, i => match nx cs i with | .none => (c : Int) | .some j => vwN cs f (c + 1) j
def vwL (cs : List Cls) : Nat → Nat → Nat
  | 0, i => i
  | f + 1, i => match nx cs i with | .none => i | .some j => vwL cs f j
theorem vwN_none {cs : List Cls} {f c i : Nat} (h : nx cs i = Option.none) : vwN cs (f + 1) c i = c := by unfold vwN; rw [h]
theorem vwN_some {cs : List Cls} {f c i j : Nat} (h : nx cs i = Option.some j) : vwN cs (f + 1) c i = vwN cs f (c + 1) j := by conv => lhs; unfold vwN; rw [h]
theorem vwL_none {cs : List Cls} {f i : Nat} (h : nx cs i = Option.none) : vwL cs (f + 1) i = i := by unfold vwL; rw [h]
theorem vwL_some {cs : List Cls} {f i j : Nat} (h : nx cs i = Option.some j) : vwL cs (f + 1) i = vwL cs f j := by conv => lhs; unfold vwL; rw [h]
theorem vwL_lt (cs : List Cls) : ∀ (f i : Nat), i < cs.length → vwL cs f i < cs.length
  | 0, _, h => h
  | f + 1, i, h => by
    cases hn : nx cs i with
    | none => rw [vwL_none hn]; exact h
    | some j => rw [vwL_some hn]; exact vwL_lt cs f j (nx_lt hn)
/-- does a way come back to a class -/
def vcy (cs : List Cls) (i : Nat) : Nat → Nat → Bool
  | 0, _ => false
  | f + 1, k => match nx cs k with | .none => false | .some j => if j = i then true else vcy cs i f j
theorem vcy_none {cs : List Cls} {i f k : Nat} (h : nx cs k = Option.none) : vcy cs i (f + 1) k = false := by unfold vcy; rw [h]
theorem vcy_some {cs : List Cls} {i f k j : Nat} (h : nx cs k = Option.some j) : vcy cs i (f + 1) k = if j = i then true else vcy cs i f j := by conv => lhs; unfold vcy; rw [h]
/-- as the program goes up: the classes passed, the next one -/
def wk (cs : List Cls) : Nat → List Nat → Option Nat → Nat × Int
  | 0, W, _ => (W.length, -1)
  | _ + 1, W, .none => (W.length, -1)
  | f + 1, W, .some j => if j ∈ W then (W.length, (j : Int)) else wk cs f (W ++ [j]) (nx cs j)
theorem wk_in {cs : List Cls} {f : Nat} {W : List Nat} {j : Nat} (h : j ∈ W) : wk cs (f + 1) W (Option.some j) = (W.length, (j : Int)) := by unfold wk; rw [if_pos h]
theorem wk_on {cs : List Cls} {f : Nat} {W : List Nat} {j : Nat} (h : ¬j ∈ W) : wk cs (f + 1) W (Option.some j) = wk cs f (W ++ [j]) (nx cs j) := by conv => lhs; unfold wk; rw [if_neg h]
theorem wk_end {cs : List Cls} (f : Nat) (W : List Nat) : wk cs f W Option.none = (W.length, -1) := by cases f <;> rfl
def wkN (cs : List Cls) (i : Nat) : Nat := (wk cs 41 [] (Option.some i)).1
def wkA (cs : List Cls) (i : Nat) : Int := (wk cs 41 [] (Option.some i)).2
theorem ring_long {cs : List Cls} {W : List Nat} (h : ∀ x ∈ W, ∃ y, nx cs x = Option.some y ∧ y ∈ W) : ∀ (f c x : Nat), x ∈ W → vwN cs f c x = -1
  | 0, _, _, _ => rfl
  | f + 1, c, x, hx => by
    obtain ⟨y, hy, hw⟩ := h x hx
    rw [vwN_some hy]
    exact ring_long h f (c + 1) y hw
theorem ring_not {cs : List Cls} {i : Nat} {W : List Nat} (h : ∀ x ∈ W, ∃ y, nx cs x = Option.some y ∧ y ∈ W ∧ y ≠ i) : ∀ (f x : Nat), x ∈ W → vcy cs i f x = false
  | 0, _, _ => rfl
  | f + 1, x, hx => by
    obtain ⟨y, hy, hw, hi⟩ := h x hx
    rw [vcy_some hy, if_neg hi]
    exact ring_not h f y hw
theorem nodup_snoc {W : List Nat} {j : Nat} (h : W.Nodup) (hj : ¬j ∈ W) : (W ++ [j]).Nodup := by
  rw [List.nodup_append]
  exact ⟨h, by simp, fun a ha b hb => by simp at hb; subst hb; exact fun e => hj (e ▸ ha)⟩
theorem all_snoc {W : List Nat} {j n : Nat} (h : ∀ x ∈ W, x < n) (hj : j < n) : ∀ x ∈ W ++ [j], x < n := fun x hx => by
  rcases List.mem_append.1 hx with q | q
  · exact h x q
  · simp at q; omega
def deepP (p : Nat × Int) : Bool := decide (8 < (p.1 : Int)) || (p.2 != -1)
theorem walk_deep (cs : List Cls) : ∀ (f : Nat) (W : List Nat) (j : Nat), cs.length < f + W.length → W.Nodup → (∀ x ∈ W, x < cs.length) → j < cs.length →
    (∀ x ∈ W, ∃ y, nx cs x = Option.some y ∧ (y ∈ W ∨ y = j)) → deepP (wk cs f W (Option.some j)) = !inB (vwN cs (cs.length - W.length) (W.length + 1) j) 1 8
  | 0, W, j, hf, hd, hl, hj, hr => by have := nodup_len _ W hd hl; omega
  | f + 1, W, j, hf, hd, hl, hj, hr => by
    by_cases h : j ∈ W
    · rw [wk_in h, ring_long (fun x hx => by
        obtain ⟨y, hy, q⟩ := hr x hx
        exact ⟨y, hy, by rcases q with q | q; exact q; rw [q]; exact h⟩) _ _ j h]
      unfold deepP
      rw [show (((j : Int) != -1)) = true from by simp, Bool.or_true]
      rfl
    · have hd' := nodup_snoc hd h
      have hl' := all_snoc hl hj
      have hn := nodup_len _ _ hd' hl'
      rw [List.length_append, List.length_singleton] at hn
      rw [wk_on h, show cs.length - W.length = (cs.length - (W.length + 1)) + 1 by omega]
      cases hx : nx cs j with
      | none =>
        rw [wk_end, vwN_none hx]
        unfold deepP
        simp only [List.length_append, List.length_singleton, bne_self_eq_false, Bool.or_false]
        rcases Nat.lt_or_ge 8 (W.length + 1) with q | q
        · rw [inBR_no (.inr (by omega))]; simp; omega
        · rw [inBR_yes (by omega) (by omega)]; simp; omega
      | some k =>
        rw [vwN_some hx]
        have := walk_deep cs f (W ++ [j]) k (by simp; omega) hd' hl' (nx_lt hx) (fun x hm => by
          rcases List.mem_append.1 hm with q | q
          · obtain ⟨y, hy, r⟩ := hr x q
            exact ⟨y, hy, .inl (by rcases r with r | r; exact List.mem_append_left _ r; rw [r]; simp)⟩
          · simp at q; subst q
            exact ⟨k, hx, .inr rfl⟩)
        rw [this, List.length_append, List.length_singleton]
theorem walk_cycle (cs : List Cls) (i : Nat) : ∀ (f : Nat) (W : List Nat) (j : Nat), cs.length < f + W.length → W.Nodup → (∀ x ∈ W, x < cs.length) → j < cs.length →
    (W = [] → j = i) → (W ≠ [] → i ∈ W) → (∀ x ∈ W, ∃ y, nx cs x = Option.some y ∧ (y = j ∨ (y ∈ W ∧ y ≠ i))) →
    ((wk cs f W (Option.some j)).2 == (i : Int)) = if W = [] then vcy cs i cs.length i else if j = i then true else vcy cs i (cs.length - W.length) j
  | 0, W, j, hf, hd, hl, hj, he, hi, hr => by have := nodup_len _ W hd hl; omega
  | f + 1, W, j, hf, hd, hl, hj, he, hi, hr => by
    by_cases h : j ∈ W
    · have hne : W ≠ [] := fun e => by rw [e] at h; simp at h
      rw [wk_in h, if_neg hne]
      by_cases hji : j = i
      · rw [if_pos hji, hji]; simp
      · rw [if_neg hji, ring_not (fun x hx => by
          obtain ⟨y, hy, q⟩ := hr x hx
          refine ⟨y, hy, ?_⟩
          rcases q with q | q
          · subst q; exact ⟨h, hji⟩
          · exact q) _ j h]
        simp; omega
    · have hd' := nodup_snoc hd h
      have hl' := all_snoc hl hj
      have hn := nodup_len _ _ hd' hl'
      rw [List.length_append, List.length_singleton] at hn
      rw [wk_on h]
      have hM : (if W = [] then vcy cs i cs.length i else if j = i then true else vcy cs i (cs.length - W.length) j) = vcy cs i ((cs.length - (W.length + 1)) + 1) j := by
        by_cases hne : W = []
        · rw [if_pos hne, he hne, hne]; congr 1; simp; omega
        · rw [if_neg hne, if_neg (fun e => h (by rw [e]; exact hi hne))]; congr 1; omega
      rw [hM]
      cases hx : nx cs j with
      | none =>
        rw [wk_end, vcy_none hx]
        simp
      | some k =>
        have := walk_cycle cs i f (W ++ [j]) k (by simp; omega) hd' hl' (nx_lt hx) (fun e => by simp at e) (fun _ => by
          by_cases hne : W = []
          · rw [← he hne]; simp
          · exact List.mem_append_left _ (hi hne)) (fun x hm => by
          rcases List.mem_append.1 hm with q | q
          · have hne : W ≠ [] := fun e => by rw [e] at q; simp at q
            obtain ⟨y, hy, r⟩ := hr x q
            refine ⟨y, hy, .inr ?_⟩
            rcases r with r | r
            · rw [r]; exact ⟨by simp, fun e => h (by rw [e]; exact hi hne)⟩
            · exact ⟨List.mem_append_left _ r.1, r.2⟩
          · simp at q; subst q
            exact ⟨k, hx, .inl rfl⟩)
        rw [this, if_neg (by simp), vcy_some hx, List.length_append, List.length_singleton]
theorem deep_same {cs : List Cls} (h40 : cs.length ≤ 40) {i : Nat} (hi : i < cs.length) : (decide (8 < (wkN cs i : Int)) || (wkA cs i != -1)) = !inB (vwN cs cs.length 1 i) 1 8 :=
  walk_deep cs 41 [] i (by simp; omega) (by simp) (by simp) hi (by simp)
theorem cycle_same {cs : List Cls} (h40 : cs.length ≤ 40) {i : Nat} (hi : i < cs.length) : (wkA cs i == (i : Int)) = vcy cs i cs.length i := by
  have := walk_cycle cs i 41 [] i (by simp; omega) (by simp) (by simp) hi (fun _ => rfl) (by simp) (by simp)
  rw [if_pos rfl] at this
  exact this
end Go.Proofs.Ytfijhgggljaomaa
