import Derived.Test.YthgbhnedfdnfpaaGreatDoorPka
import Derived.LoopTactic
import Derived.WalkSmall
import Derived.Deep.QuietTactic
import Derived.BigQuiet
/- Classes and filters as lists, and when a configuration is valid: plain functions and facts. -/
namespace Go.Proofs.YthgbhnedfdnfpaaGreatDoor
set_option maxRecDepth 100000
set_option linter.unusedVariables false

structure Cls where
  (i p r e b u o l : Int)
structure Flt where
  (o f m v t : Int)
def cls0 : Cls := ⟨0, 0, 0, 0, 0, 0, 0, 0⟩
def flt0 : Flt := ⟨0, 0, 0, 0, 0⟩

theorem inBR_iff {n lo hi : Int} : inB n lo hi = true ↔ lo ≤ n ∧ n ≤ hi := by unfold inB; simp
theorem inBR_yes {n lo hi : Int} (h : lo ≤ n) (h' : n ≤ hi) : inB n lo hi = true := inBR_iff.2 ⟨h, h'⟩
theorem inBR_no {n lo hi : Int} (h : n < lo ∨ hi < n) : inB n lo hi = false := by
  unfold inB; rcases h with h | h <;> simp <;> omega
theorem inBR_cases (n lo hi : Int) : (lo ≤ n ∧ n ≤ hi ∧ inB n lo hi = true) ∨ (n < lo ∧ inB n lo hi = false) ∨ (lo ≤ n ∧ hi < n ∧ inB n lo hi = false) := by
  rcases Int.lt_or_le n lo with h | h
  · exact .inr (.inl ⟨h, inBR_no (.inl h)⟩)
  · rcases Int.lt_or_le hi n with h2 | h2
    · exact .inr (.inr ⟨h, h2, inBR_no (.inr h2)⟩)
    · exact .inl ⟨h, h2, inBR_yes h h2⟩

def rateOk (x : Cls) : Bool := inB x.r 1 100000 && (inB x.e x.r 100000 && (inB x.b 1500 1000000 && (inB x.u 1500 1000000 && inB x.o 0 7)))
theorem rateOk_r {x : Cls} (h : rateOk x = true) : 1 ≤ x.r ∧ x.r ≤ 100000 := by
  unfold rateOk at h
  exact inBR_iff.1 (Bool.and_eq_true_iff.1 h).1
def okL : Int → List Cls → Bool
  | _, [] => true
  | b, x :: r => (decide (b < x.i) && (decide (x.i ≤ 999) && rateOk x)) && okL x.i r
theorem drop_cls (cs : List Cls) (k : Nat) (h : k < cs.length) (x : Cls) (hx : cs.getD k cls0 = x) : cs.drop k = x :: cs.drop (k + 1) := by
  rw [List.drop_eq_getElem_cons h]
  subst hx
  simp [List.getD_eq_getElem?_getD, h]
theorem okL_at (b : Int) (cs : List Cls) (k : Nat) (h : k < cs.length) (x : Cls) (hx : cs.getD k cls0 = x) :
    okL b (cs.drop k) = ((decide (b < x.i) && (decide (x.i ≤ 999) && rateOk x)) && okL x.i (cs.drop (k + 1))) := by
  rw [drop_cls cs k h x hx, okL]
theorem okL_end (b : Int) (cs : List Cls) (k : Nat) (h : cs.length ≤ k) : okL b (cs.drop k) = true := by
  rw [List.drop_eq_nil_of_le h]; rfl
def IncC (cs : List Cls) : Prop := ∀ j k, j < k → k < cs.length → (cs.getD j cls0).i < (cs.getD k cls0).i
theorem okL_ids : ∀ (cs : List Cls) (b : Int), okL b cs = true → ∀ k, k < cs.length → b < (cs.getD k cls0).i ∧ (cs.getD k cls0).i ≤ 999 ∧ rateOk (cs.getD k cls0) = true
  | [], _, _, k, hk => absurd hk (by simp)
  | x :: r, b, h, k, hk => by
    unfold okL at h
    simp only [Bool.and_eq_true, decide_eq_true_eq] at h
    match k, hk with
    | 0, _ => exact ⟨h.1.1, h.1.2.1, h.1.2.2⟩
    | k + 1, hk =>
      have := okL_ids r x.i h.2 k (by simpa using hk)
      exact ⟨by have := this.1; simp only [List.getD_cons_succ]; omega, by simpa using this.2⟩
theorem okL_inc : ∀ (cs : List Cls) (b : Int), okL b cs = true → IncC cs
  | [], _, _, j, k, _, hk => absurd hk (by simp)
  | x :: r, b, h, j, k, hjk, hk => by
    unfold okL at h
    rw [Bool.and_eq_true] at h
    match j, k, hjk, hk with
    | 0, k + 1, _, hk =>
      have := okL_ids r x.i h.2 k (by simpa using hk)
      simp only [List.getD_cons_succ, List.getD_cons_zero]
      exact this.1
    | j + 1, k + 1, hjk, hk =>
      simp only [List.getD_cons_succ]
      exact okL_inc r x.i h.2 j k (by omega) (by simpa using hk)

def fnd : List Cls → Int → Option Nat
  | [], _ => .none
  | x :: r, id => if x.i = id then .some 0 else (fnd r id).map (· + 1)
theorem fnd_some : ∀ (cs : List Cls) (id : Int) (k : Nat), k < cs.length → (cs.getD k cls0).i = id → (∀ j, j < k → (cs.getD j cls0).i ≠ id) → fnd cs id = Option.some k
  | [], _, k, hk, _, _ => absurd hk (by simp)
  | x :: r, id, k, hk, he, hn => by
    unfold fnd
    match k, hk, he, hn with
    | 0, _, he, _ => rw [if_pos (by simpa using he)]
    | k + 1, hk, he, hn =>
      rw [if_neg (by have := hn 0 (by omega); simpa using this), fnd_some r id k (by simpa using hk) (by simpa using he) (fun j hj => by have := hn (j + 1) (by omega); simpa using this)]
      rfl
theorem fnd_none : ∀ (cs : List Cls) (id : Int), (∀ j, j < cs.length → (cs.getD j cls0).i ≠ id) → fnd cs id = Option.none
  | [], _, _ => rfl
  | x :: r, id, hn => by
    unfold fnd
    rw [if_neg (by have := hn 0 (by simp); simpa using this), fnd_none r id (fun j hj => by have := hn (j + 1) (by simpa using hj); simpa using this)]
    rfl
theorem fnd_get : ∀ (cs : List Cls) (id : Int) (k : Nat), fnd cs id = Option.some k → k < cs.length ∧ (cs.getD k cls0).i = id
  | [], _, _, h => by unfold fnd at h; cases h
  | x :: r, id, k, h => by
    unfold fnd at h
    by_cases hx : x.i = id
    · rw [if_pos hx] at h
      cases h
      exact ⟨by simp, by simpa using hx⟩
    · rw [if_neg hx] at h
      cases hr : fnd r id with
      | none => rw [hr] at h; cases h
      | some j =>
        rw [hr] at h
        cases h
        have := fnd_get r id j hr
        exact ⟨by simpa using this.1, by simpa using this.2⟩
theorem fnd_inc {cs : List Cls} (hi : IncC cs) {k : Nat} (hk : k < cs.length) : fnd cs (cs.getD k cls0).i = Option.some k :=
  fnd_some cs _ k hk rfl (fun j hj => by have := hi j k hj hk; omega)
def plc : List Cls → Int → Nat
  | [], _ => 0
  | x :: r, id => if x.i < id then plc r id + 1 else 0
theorem plc_eq : ∀ (cs : List Cls) (id : Int) (k : Nat), k ≤ cs.length → (∀ j, j < k → (cs.getD j cls0).i < id) → (k < cs.length → id ≤ (cs.getD k cls0).i) → plc cs id = k
  | [], _, k, hk, _, _ => by simp at hk; subst hk; rfl
  | x :: r, id, k, hk, hl, hg => by
    unfold plc
    match k, hk, hl, hg with
    | 0, _, _, hg => rw [if_neg (by have := hg (by simp); simp at this; omega)]
    | k + 1, hk, hl, hg =>
      rw [if_pos (by have := hl 0 (by omega); simpa using this), plc_eq r id k (by simpa using hk) (fun j hj => by have := hl (j + 1) (by omega); simpa using this) (fun h => by have := hg (by simpa using h); simpa using this)]
theorem plc_less : ∀ (cs : List Cls) (id : Int) (j : Nat), j < plc cs id → (cs.getD j cls0).i < id
  | [], _, j, h => by unfold plc at h; omega
  | x :: r, id, j, h => by
    unfold plc at h
    by_cases hx : x.i < id
    · rw [if_pos hx] at h
      match j, h with
      | 0, _ => simpa using hx
      | j + 1, h => simpa using plc_less r id j (by omega)
    · rw [if_neg hx] at h; omega
theorem plc_more : ∀ (cs : List Cls) (id : Int), plc cs id < cs.length → id ≤ (cs.getD (plc cs id) cls0).i
  | [], _, h => by simp at h
  | x :: r, id, h => by
    by_cases hx : x.i < id
    · have e : plc (x :: r) id = plc r id + 1 := by conv => lhs; unfold plc; rw [if_pos hx]
      rw [e] at h ⊢
      simpa using plc_more r id (by simpa using h)
    · have e : plc (x :: r) id = 0 := by conv => lhs; unfold plc; rw [if_neg hx]
      rw [e]; simp; omega
theorem fnd_plc {cs : List Cls} (hi : IncC cs) (id : Int) : fnd cs id = if plc cs id < cs.length ∧ (cs.getD (plc cs id) cls0).i = id then Option.some (plc cs id) else Option.none := by
  by_cases h : plc cs id < cs.length ∧ (cs.getD (plc cs id) cls0).i = id
  · rw [if_pos h]
    have := fnd_inc hi h.1
    rw [h.2] at this
    exact this
  · rw [if_neg h]
    apply fnd_none
    intro j hj he
    rcases Nat.lt_trichotomy j (plc cs id) with q | q | q
    · have := plc_less cs id j q; omega
    · exact h ⟨by omega, by rw [← q]; exact he⟩
    · have h1 := plc_more cs id (by omega)
      have h2 := hi (plc cs id) j q hj
      omega

def hasK (cs : List Cls) (id : Int) : Bool := cs.any (fun y => y.p == id)
def kidsF (id : Int) : Nat → List Cls → List Nat
  | _, [] => []
  | k, y :: r => if y.p = id then k :: kidsF id (k + 1) r else kidsF id (k + 1) r
def kids (cs : List Cls) (id : Int) : List Nat := kidsF id 0 cs
theorem kidsF_at (id : Int) (cs : List Cls) (k : Nat) (h : k < cs.length) (x : Cls) (hx : cs.getD k cls0 = x) :
    kidsF id k (cs.drop k) = if x.p = id then k :: kidsF id (k + 1) (cs.drop (k + 1)) else kidsF id (k + 1) (cs.drop (k + 1)) := by
  rw [drop_cls cs k h x hx, kidsF]
theorem kidsF_end (id : Int) (cs : List Cls) (k : Nat) (h : cs.length ≤ k) : kidsF id k (cs.drop k) = [] := by
  rw [List.drop_eq_nil_of_le h]; rfl
theorem kidsF_nil (id : Int) : ∀ (cs : List Cls) (k : Nat), (kidsF id k cs = []) ↔ hasK cs id = false
  | [], _ => by simp [kidsF, hasK]
  | y :: r, k => by
    have := kidsF_nil id r (k + 1)
    unfold kidsF hasK
    by_cases hy : y.p = id
    · rw [if_pos hy]; simp [hy]
    · rw [if_neg hy, this]; simp [hasK, hy]
theorem kidsF_len (id : Int) : ∀ (cs : List Cls) (k : Nat), (kidsF id k cs).length ≤ cs.length
  | [], _ => Nat.le_refl _
  | y :: r, k => by
    have := kidsF_len id r (k + 1)
    unfold kidsF
    split <;> simp <;> omega
theorem kidsF_lt (id : Int) : ∀ (cs : List Cls) (k : Nat), ∀ j ∈ kidsF id k cs, k ≤ j ∧ j < k + cs.length
  | [], _, j, h => by simp [kidsF] at h
  | y :: r, k, j, h => by
    have := kidsF_lt id r (k + 1) j
    unfold kidsF at h
    split at h
    · rcases List.mem_cons.1 h with h | h
      · subst h; simp
      · have := this h; simp; omega
    · have := this h; simp; omega
def spF (id : Int) : Int → List Cls → Int
  | n, [] => n
  | n, y :: r => spF id (if y.p = id then n - y.r else n) r
def spare (cs : List Cls) (x : Cls) : Int := spF x.i x.r cs
theorem spF_at (id n : Int) (cs : List Cls) (k : Nat) (h : k < cs.length) (x : Cls) (hx : cs.getD k cls0 = x) :
    spF id n (cs.drop k) = spF id (if x.p = id then n - x.r else n) (cs.drop (k + 1)) := by
  rw [drop_cls cs k h x hx, spF]
theorem spF_end (id n : Int) (cs : List Cls) (k : Nat) (h : cs.length ≤ k) : spF id n (cs.drop k) = n := by
  rw [List.drop_eq_nil_of_le h]; rfl
def spK (cs : List Cls) : Int → List Nat → Int
  | n, [] => n
  | n, j :: r => spK cs (n - (cs.getD j cls0).r) r
theorem spK_kids (cs : List Cls) (id : Int) : ∀ (m k : Nat) (n : Int), cs.length - k = m → spK cs n (kidsF id k (cs.drop k)) = spF id n (cs.drop k)
  | 0, k, n, h => by rw [kidsF_end id cs k (by omega), spF_end id n cs k (by omega)]; rfl
  | m + 1, k, n, h => by
    have hk : k < cs.length := by omega
    rw [kidsF_at id cs k hk _ rfl, spF_at id n cs k hk _ rfl]
    by_cases hp : (cs.getD k cls0).p = id
    · rw [if_pos hp, if_pos hp, spK, spK_kids cs id m (k + 1) _ (by omega)]
    · rw [if_neg hp, if_neg hp, spK_kids cs id m (k + 1) _ (by omega)]
theorem spare_kids (cs : List Cls) (x : Cls) : spK cs x.r (kids cs x.i) = spare cs x := by
  have := spK_kids cs x.i cs.length 0 x.r (by simp)
  rw [List.drop_zero] at this
  exact this
def cT (cs : List Cls) : Nat := (cs.filter (fun x => x.p == 0)).length
theorem cT_more (cs : List Cls) (k : Nat) (h : k < cs.length) (x : Cls) (hx : cs.getD k cls0 = x) : cT (cs.take (k + 1)) = cT (cs.take k) + (if x.p = 0 then 1 else 0) := by
  have hl : cs[k] = x := by rw [← hx]; simp [List.getD_eq_getElem?_getD, h]
  unfold cT
  rw [List.take_succ_eq_append_getElem h, List.filter_append, hl, List.length_append]
  by_cases hi : x.p = 0
  · simp [hi]
  · simp [hi]
theorem cT_le (cs : List Cls) : cT cs ≤ cs.length := List.length_filter_le _ _

def up (cs : List Cls) : Nat → Nat → List Nat
  | 0, _ => []
  | f + 1, k => k :: (match fnd cs (cs.getD k cls0).p with | .none => [] | .some j => up cs f j)
theorem up_len (cs : List Cls) : ∀ (f k : Nat), (up cs f k).length ≤ f
  | 0, _ => Nat.le_refl _
  | f + 1, k => by
    unfold up
    cases fnd cs (cs.getD k cls0).p with
    | none => simp
    | some j => have := up_len cs f j; simp; omega
theorem up_lt (cs : List Cls) : ∀ (f k : Nat), k < cs.length → ∀ j ∈ up cs f k, j < cs.length
  | 0, _, _, j, h => by simp [up] at h
  | f + 1, k, hk, j, h => by
    unfold up at h
    rcases List.mem_cons.1 h with h | h
    · omega
    · cases hf : fnd cs (cs.getD k cls0).p with
      | none => rw [hf] at h; simp at h
      | some i =>
        rw [hf] at h
        exact up_lt cs f i (fnd_get cs _ i hf).1 j h
theorem up_cons (cs : List Cls) (f k : Nat) : ∃ r, up cs (f + 1) k = k :: r := ⟨_, rfl⟩
def lastN : List Nat → Nat
  | [] => 0
  | [k] => k
  | _ :: r => lastN r
theorem lastN_cons (k j : Nat) (r : List Nat) : lastN (k :: j :: r) = lastN (j :: r) := rfl
theorem lastN_get : ∀ (l : List Nat), 0 < l.length → l.getD (l.length - 1) 0 = lastN l
  | [], h => by simp at h
  | [k], _ => rfl
  | k :: j :: r, _ => by
    rw [lastN_cons, ← lastN_get (j :: r) (by simp)]
    simp
def wayOk (cs : List Cls) (k : Nat) : Bool := decide ((up cs 9 k).length ≤ 8) && ((cs.getD (lastN (up cs 9 k)) cls0).p == 0)
def reach (cs : List Cls) : Nat → Cls → Bool
  | 0, x => x.p == 0
  | f + 1, x => (x.p == 0) || (match fnd cs x.p with | .none => false | .some j => reach cs f (cs.getD j cls0))
def parOk (cs : List Cls) (x : Cls) : Bool := (x.p == 0) || (fnd cs x.p).isSome
theorem way_reach (cs : List Cls) (h0 : fnd cs 0 = Option.none) (hp : ∀ k, k < cs.length → parOk cs (cs.getD k cls0) = true) : ∀ (f k : Nat), k < cs.length →
    (((up cs (f + 2) k).length ≤ f + 1 ∧ (cs.getD (lastN (up cs (f + 2) k)) cls0).p = 0) ↔ reach cs f (cs.getD k cls0) = true)
  | f, k, hk => by
    have hpk := hp k hk
    unfold parOk at hpk
    by_cases hz : (cs.getD k cls0).p = 0
    · have e : up cs (f + 2) k = [k] := by
        show k :: (match fnd cs (cs.getD k cls0).p with | .none => [] | .some j => up cs (f + 1) j) = [k]
        rw [hz, h0]
      rw [e]
      refine ⟨fun _ => ?_, fun _ => ⟨by simp, hz⟩⟩
      have hzb : ((cs.getD k cls0).p == 0) = true := by rw [hz]; rfl
      cases f
      · exact hzb
      · unfold reach; rw [hzb]; rfl
    · have hz' : ((cs.getD k cls0).p == 0) = false := by simpa using hz
      rw [hz', Bool.false_or] at hpk
      obtain ⟨j, hj⟩ := Option.isSome_iff_exists.1 hpk
      have hjl := (fnd_get cs _ j hj).1
      have e : up cs (f + 2) k = k :: up cs (f + 1) j := by
        show k :: (match fnd cs (cs.getD k cls0).p with | .none => [] | .some j => up cs (f + 1) j) = _
        rw [hj]
      match f with
      | 0 =>
        obtain ⟨r, hr⟩ := up_cons cs 0 j
        have e4 : reach cs 0 (cs.getD k cls0) = false := hz'
        rw [e, hr, e4]
        simp
      | f + 1 =>
        have ih := way_reach cs h0 hp f j hjl
        obtain ⟨r, hr⟩ := up_cons cs (f + 1) j
        rw [e]
        have e2 : lastN (k :: up cs (f + 1 + 1) j) = lastN (up cs (f + 2) j) := by rw [hr, lastN_cons]
        have e3 : reach cs (f + 1) (cs.getD k cls0) = reach cs f (cs.getD j cls0) := by
          show (((cs.getD k cls0).p == 0) || (match fnd cs (cs.getD k cls0).p with | .none => false | .some j => reach cs f (cs.getD j cls0))) = _
          rw [hz', hj, Bool.false_or]
        rw [e2, e3, ← ih, List.length_cons]
        constructor
        · rintro ⟨a, b⟩; exact ⟨Nat.le_of_succ_le_succ a, b⟩
        · rintro ⟨a, b⟩; exact ⟨Nat.succ_le_succ a, b⟩
theorem way_par (cs : List Cls) (k : Nat) (h : wayOk cs k = true) : parOk cs (cs.getD k cls0) = true := by
  unfold wayOk at h
  simp only [Bool.and_eq_true, decide_eq_true_eq, beq_iff_eq] at h
  unfold parOk
  cases hf : fnd cs (cs.getD k cls0).p with
  | some j => simp
  | none =>
    have e : up cs 9 k = [k] := by
      show k :: (match fnd cs (cs.getD k cls0).p with | .none => [] | .some j => up cs 8 j) = [k]
      rw [hf]
    rw [e] at h
    have := h.2
    simp [lastN] at this
    simp [this]

def fromK (P : Nat → Bool) (n : Nat) (k : Nat) : Bool := (List.range' k (n - k)).all P
theorem fromK_at (P : Nat → Bool) (n k : Nat) (h : k < n) : fromK P n k = (P k && fromK P n (k + 1)) := by
  unfold fromK
  rw [show n - k = (n - (k + 1)) + 1 by omega, List.range'_succ, List.all_cons]
theorem fromK_end (P : Nat → Bool) (n k : Nat) (h : n ≤ k) : fromK P n k = true := by
  unfold fromK
  rw [show n - k = 0 by omega]; rfl
theorem fromK_iff (P : Nat → Bool) (n : Nat) : fromK P n 0 = true ↔ ∀ k, k < n → P k = true := by
  unfold fromK
  rw [List.all_eq_true]
  constructor
  · intro h k hk; exact h k (List.mem_range'_1.2 ⟨Nat.zero_le _, by omega⟩)
  · intro h k hk; exact h k (by have := List.mem_range'_1.1 hk; omega)
def limOk (cs : List Cls) (x : Cls) : Bool := if hasK cs x.i then x.l == 0 else inB x.l 1 60
def nodeOk (cs : List Cls) (k : Nat) : Bool := wayOk cs k && (decide (0 ≤ spare cs (cs.getD k cls0)) && limOk cs (cs.getD k cls0))
def treeG (cs : List Cls) : Bool := okL 0 cs && ((cT cs == 1) && fromK (nodeOk cs) cs.length 0)
def arG (cs : List Cls) : Bool := (decide (1 ≤ cs.length) && decide (cs.length ≤ 24)) && okL 0 cs
def itG (cs : List Cls) : Bool := fromK (fun k => parOk cs (cs.getD k cls0)) cs.length 0 && ((cT cs == 1) && fromK (fun k => reach cs 7 (cs.getD k cls0)) cs.length 0)
def rfG (cs : List Cls) : Bool := fromK (fun k => decide (0 ≤ spare cs (cs.getD k cls0))) cs.length 0
def lfG (cs : List Cls) : Bool := fromK (fun k => limOk cs (cs.getD k cls0)) cs.length 0
theorem no_zero {cs : List Cls} (h : okL 0 cs = true) : fnd cs 0 = Option.none :=
  fnd_none cs 0 (fun j hj => by have := (okL_ids cs 0 h j hj).1; omega)
theorem tree_eq (cs : List Cls) (h : okL 0 cs = true) : treeG cs = (itG cs && (rfG cs && lfG cs)) := by
  have hz := no_zero h
  unfold treeG itG rfG lfG
  rw [h, Bool.true_and]
  apply Bool.eq_iff_iff.2
  simp only [Bool.and_eq_true, fromK_iff, nodeOk, decide_eq_true_eq]
  constructor
  · rintro ⟨ht, hn⟩
    have hp : ∀ k, k < cs.length → parOk cs (cs.getD k cls0) = true := fun k hk => way_par cs k (hn k hk).1
    refine ⟨⟨hp, ht, fun k hk => ?_⟩, fun k hk => (hn k hk).2.1, fun k hk => (hn k hk).2.2⟩
    have hw := (hn k hk).1
    unfold wayOk at hw
    simp only [Bool.and_eq_true, decide_eq_true_eq, beq_iff_eq] at hw
    exact (way_reach cs hz hp 7 k hk).1 hw
  · rintro ⟨⟨hp, ht, hr⟩, hs, hl⟩
    refine ⟨ht, fun k hk => ⟨?_, hs k hk, hl k hk⟩⟩
    unfold wayOk
    simp only [Bool.and_eq_true, decide_eq_true_eq, beq_iff_eq]
    exact (way_reach cs hz hp 7 k hk).2 (hr k hk)

def leafB (cs : List Cls) (id : Int) : Bool := (fnd cs id).isSome && !hasK cs id
def bitB (v m : Int) : Bool := decide (v.toNat &&& m.toNat = v.toNat)
def patOk (x : Flt) : Bool := inB x.f 0 3 && (inB x.m 0 65535 && (inB x.v 0 65535 && bitB x.v x.m))
def okF : Int → List Flt → Bool
  | _, [] => true
  | b, x :: r => (decide (b < x.o) && (decide (x.o ≤ 99) && patOk x)) && okF x.o r
theorem drop_flt (fs : List Flt) (k : Nat) (h : k < fs.length) (x : Flt) (hx : fs.getD k flt0 = x) : fs.drop k = x :: fs.drop (k + 1) := by
  rw [List.drop_eq_getElem_cons h]
  subst hx
  simp [List.getD_eq_getElem?_getD, h]
theorem okF_at (b : Int) (fs : List Flt) (k : Nat) (h : k < fs.length) (x : Flt) (hx : fs.getD k flt0 = x) :
    okF b (fs.drop k) = ((decide (b < x.o) && (decide (x.o ≤ 99) && patOk x)) && okF x.o (fs.drop (k + 1))) := by
  rw [drop_flt fs k h x hx, okF]
theorem okF_end (b : Int) (fs : List Flt) (k : Nat) (h : fs.length ≤ k) : okF b (fs.drop k) = true := by
  rw [List.drop_eq_nil_of_le h]; rfl
def mdF (cs : List Cls) : Int → List Flt → Bool
  | _, [] => true
  | b, x :: r => ((decide (b < x.o) && (decide (x.o ≤ 99) && patOk x)) && leafB cs x.t) && mdF cs x.o r
theorem mdF_at (cs : List Cls) (b : Int) (fs : List Flt) (k : Nat) (h : k < fs.length) (x : Flt) (hx : fs.getD k flt0 = x) :
    mdF cs b (fs.drop k) = (((decide (b < x.o) && (decide (x.o ≤ 99) && patOk x)) && leafB cs x.t) && mdF cs x.o (fs.drop (k + 1))) := by
  rw [drop_flt fs k h x hx, mdF]
theorem mdF_end (cs : List Cls) (b : Int) (fs : List Flt) (k : Nat) (h : fs.length ≤ k) : mdF cs b (fs.drop k) = true := by
  rw [List.drop_eq_nil_of_le h]; rfl
def lvF (cs : List Cls) (fs : List Flt) : Bool := fs.all (fun x => leafB cs x.t)
theorem lvF_at (cs : List Cls) (fs : List Flt) (k : Nat) (h : k < fs.length) (x : Flt) (hx : fs.getD k flt0 = x) : lvF cs (fs.drop k) = (leafB cs x.t && lvF cs (fs.drop (k + 1))) := by
  rw [drop_flt fs k h x hx]; rfl
theorem lvF_end (cs : List Cls) (fs : List Flt) (k : Nat) (h : fs.length ≤ k) : lvF cs (fs.drop k) = true := by
  rw [List.drop_eq_nil_of_le h]; rfl
theorem mdF_eq (cs : List Cls) : ∀ (fs : List Flt) (b : Int), mdF cs b fs = (okF b fs && lvF cs fs)
  | [], _ => rfl
  | x :: r, b => by
    unfold mdF okF
    rw [mdF_eq cs r x.o]
    show _ = (_ && (leafB cs x.t && lvF cs r))
    cases (decide (b < x.o) && (decide (x.o ≤ 99) && patOk x)) <;> cases leafB cs x.t <;> cases okF x.o r <;> cases lvF cs r <;> rfl
def dfG (cs : List Cls) (d : Int) : Bool := (d == 0) || leafB cs d
def afG (fs : List Flt) : Bool := decide (fs.length ≤ 16) && okF 0 fs
def fltG (cs : List Cls) (fs : List Flt) : Bool := mdF cs 0 fs && decide (fs.length ≤ 16)
def nmG (s : ByteArray) : Bool := ((s.data.toList.all (fun c => letB (c.toNat : Int))) && (decide (1 ≤ s.size) && decide (s.size ≤ 8))) && !isKw s
structure Cfg where
  (s : ByteArray)
  (cs : List Cls)
  (fs : List Flt)
  (d : Int)
def goodC (c : Cfg) : Bool := nmG c.s && ((decide (1 ≤ c.cs.length) && decide (c.cs.length ≤ 24)) && (treeG c.cs && (fltG c.cs c.fs && dfG c.cs c.d)))
theorem goodC_prog (c : Cfg) : goodC c = (nmG c.s && (arG c.cs && (itG c.cs && (rfG c.cs && (lfG c.cs && (afG c.fs && (lvF c.cs c.fs && dfG c.cs c.d))))))) := by
  unfold goodC arG
  cases hn : nmG c.s
  · rfl
  cases hl : (decide (1 ≤ c.cs.length) && decide (c.cs.length ≤ 24))
  · rfl
  cases ho : okL 0 c.cs
  · unfold treeG; rw [ho]; rfl
  rw [tree_eq c.cs ho]
  unfold fltG afG
  rw [mdF_eq]
  cases itG c.cs <;> cases rfG c.cs <;> cases lfG c.cs <;> cases okF 0 c.fs <;> cases lvF c.cs c.fs <;> cases decide (c.fs.length ≤ 16) <;> cases dfG c.cs c.d <;> rfl
structure Good (c : Cfg) : Prop where
  n1 : 1 ≤ c.cs.length
  n24 : c.cs.length ≤ 24
  ok : okL 0 c.cs = true
  top : cT c.cs = 1
  node : ∀ k, k < c.cs.length → nodeOk c.cs k = true
  fl : c.fs.length ≤ 16
theorem good_of {c : Cfg} (h : goodC c = true) : Good c := by
  unfold goodC treeG fltG at h
  simp only [Bool.and_eq_true, decide_eq_true_eq, fromK_iff, beq_iff_eq] at h
  obtain ⟨_, ⟨h1, h2⟩, ⟨h3, h4, h5⟩, ⟨_, h6⟩, _⟩ := h
  exact ⟨h1, h2, h3, h4, h5, h6⟩
end Go.Proofs.YthgbhnedfdnfpaaGreatDoor

/- Slices of bytes: what reads as a list of bytes, what the call made itself, and the contracts of the copying, comparing, marking and asking functions of the laws. -/
namespace Go.Proofs.YthgbhnedfdnfpaaGreatDoor
set_option maxRecDepth 100000
open Go.RowKit

theorem infoU8 : (Tryz.prog.info? 5).map (fun i => (i.zero, i.size, i.bytes)) = some (some (.int .u8 0), 1, 1) := by kernel_rfl

def bv (zs : List Int) : List Value := zs.map (Value.int .u8)
theorem bv_length (zs : List Int) : (bv zs).length = zs.length := by simp [bv]
theorem bv_get (zs : List Int) (i : Nat) (h : i < zs.length) : (bv zs)[i]? = some (.int .u8 (zs.getD i 0)) := by
  simp [bv, h]

def Row (w : World) (b off : Nat) (zs : List Int) : Prop :=
  (∀ i, i < zs.length → w.cell? ⟨b, off + i, none⟩ = some (.int .u8 (zs.getD i 0))) ∧ ∀ n ∈ zs, 0 ≤ n ∧ n ≤ 255

def OwnB (w : World) (B g n cap : Nat) (zs : List Int) : Prop :=
  w.ownsRow B 5 1 (.slice (some ⟨g, 0, none⟩) n cap) n (bv zs)

theorem OwnB.len {w : World} {B g n cap : Nat} {zs : List Int} (h : OwnB w B g n cap zs) : zs.length = n := by
  have := h.1; rw [bv_length] at this; omega
theorem OwnB.lt {w : World} {B g n cap : Nat} {zs : List Int} (h : OwnB w B g n cap zs) : B ≤ g ∧ g < w.heap.size := World.ownsRow.lt h g rfl
theorem OwnB.row {w : World} {B g n cap : Nat} {zs : List Int} (h : OwnB w B g n cap zs) (hr : ∀ n ∈ zs, 0 ≤ n ∧ n ≤ 255) : Row w g 0 zs := by
  refine ⟨fun i hi => ?_, hr⟩
  have hl := h.len
  have := World.ownsRow.cellAt h i (by omega)
  rw [Nat.zero_add, this, bv_get _ _ hi]
theorem OwnB.below {w w' : World} {B B' g n cap : Nat} {zs : List Int} (h : OwnB w B g n cap zs) (hb : Below B' w w') (hg : g < B') : OwnB w' B g n cap zs := by
  obtain ⟨h1, h2⟩ := h
  refine ⟨h1, ?_⟩
  rcases h2 with h2 | ⟨g', cap', cur, a, b, c, d⟩
  · exact .inl h2
  · cases a
    exact .inr ⟨g, cap, cur, rfl, b, by rw [hb.block g hg]; exact c, d⟩
theorem OwnB.base {w : World} {B B' g n cap : Nat} {zs : List Int} (h : OwnB w B g n cap zs) (hB : B' ≤ B) : OwnB w B' g n cap zs := by
  obtain ⟨h1, h2⟩ := h
  refine ⟨h1, ?_⟩
  rcases h2 with h2 | ⟨g', cap', cur, a, b, c, d⟩
  · exact .inl h2
  · exact .inr ⟨g', cap', cur, a, Nat.le_trans hB b, c, d⟩
theorem Row.below {w w' : World} {b off B : Nat} {zs : List Int} (h : Row w b off zs) (hb : Below B w w') (hB : b < B) : Row w' b off zs :=
  ⟨fun i hi => (hb.cell (p := ⟨b, off + i, none⟩) hB).trans (h.1 i hi), h.2⟩
theorem Row.drewN {w : World} {b off : Nat} {zs : List Int} (h : Row w b off zs) (q : Nat) : Row (w.drewN q) b off zs := h
theorem Row.at {w : World} {b off : Nat} {zs : List Int} (h : Row w b off zs) (k : Nat) (hk : k < zs.length) :
    ∃ c, Hid (c = zs.getD k 0) ∧ 0 ≤ c ∧ c ≤ 255 ∧ w.cell? ⟨b, off + k, none⟩ = some (.int .u8 c) := by
  refine ⟨zs.getD k 0, rfl, ?_, ?_, h.1 k hk⟩
  · exact (h.2 _ (by rw [List.getD_eq_getElem?_getD, List.getElem?_eq_getElem hk]; exact List.getElem_mem hk)).1
  · exact (h.2 _ (by rw [List.getD_eq_getElem?_getD, List.getElem?_eq_getElem hk]; exact List.getElem_mem hk)).2

def In (w : World) (a : Option Addr) (zs : List Int) : Prop :=
  zs = [] ∨ ∃ b off, a = some ⟨b, off, none⟩ ∧ Row w b off zs

theorem bv_set (zs : List Int) (k : Nat) (c : Int) : (bv zs).set k (.int .u8 c) = bv (zs.set k c) := by simp [bv, List.map_set]
theorem OwnB.store {w : World} {B g n cap : Nat} {zs : List Int} (h : OwnB w B g n cap zs) (k : Nat) (c : Int) : OwnB (w.setCell ⟨g, k, none⟩ (.int .u8 c)) B g n cap (zs.set k c) := by
  have := (World.ownsRow.stored h k (.int .u8 c)).1
  rw [bv_set] at this
  exact this
theorem OwnB.cell {w : World} {B g n cap : Nat} {zs : List Int} (h : OwnB w B g n cap zs) (k : Nat) (hk : k < n) : w.cell? ⟨g, k, none⟩ = some (.int .u8 (zs.getD k 0)) := by
  have hl := h.len
  rw [World.ownsRow.cellAt h k (by omega), bv_get _ _ (by omega)]

def Drawn (w w' : World) : Prop := ∃ q, w' = w.drewN q
theorem Drawn.below {w w' : World} (h : Drawn w w') (B : Nat) : Below B w w' := by obtain ⟨q, rfl⟩ := h; exact below_drewN (Below.refl _ _) q
theorem laidOut : laidOutB Tryz.prog = true := by kernel_rfl
theorem own : ownKnob Tryz.prog.godebug = none := by kernel_rfl

def IsRow (k : IntKind) (w : World) (a : Option Addr) (len cap : Nat) (zs : List Int) : Prop :=
  (a = none ∧ len = 0 ∧ cap = 0 ∧ zs = []) ∨
  ∃ x, a = some x ∧ len ≤ cap ∧ cap ≤ maxLen ∧ zs.length = cap ∧ (∀ i, i < zs.length → w.cell? (x.add i) = some (.int k (zs.getD i 0))) ∧ ∀ n ∈ zs, (Lit.int k n).wf = true
theorem wf_u8 {n : Int} (h : (Lit.int .u8 n).wf = true) : 0 ≤ n ∧ n ≤ 255 := by
  have h' : (decide (IntKind.u8.min ≤ n) && decide (n ≤ IntKind.u8.max)) = true := h
  have e1 : IntKind.u8.min = 0 := by decide
  have e2 : IntKind.u8.max = 255 := by decide
  rw [e1, e2] at h'
  simp at h'
  exact h'
theorem IsRow.view {w : World} {a : Option Addr} {len cap : Nat} {zs : List Int} (h : IsRow .u8 w a len cap zs) : len ≤ maxLen ∧ ∃ ys, Hid (ys.length = len) ∧ Hid (In w a ys) := by
  rcases h with ⟨rfl, rfl, rfl, rfl⟩ | ⟨x, rfl, hl, hm, hz, hcell, hwf⟩
  · exact ⟨Nat.zero_le _, [], rfl, .inl rfl⟩
  · refine ⟨Nat.le_trans hl hm, zs.take len, by unfold Hid; simp; omega, ?_⟩
    rcases Nat.eq_zero_or_pos len with rfl | hp
    · exact .inl (by simp)
    · obtain ⟨b, off, spot⟩ := x
      have hspot : spot = none := by simpa [Addr.add] using World.cell?_spot (hcell 0 (by omega))
      subst hspot
      refine .inr ⟨b, off, rfl, fun i hi => ?_, fun n hn => wf_u8 (hwf n (List.mem_of_mem_take hn))⟩
      simp at hi
      have := hcell i (by omega)
      rw [show (⟨b, off, none⟩ : Addr).add i = ⟨b, off + i, none⟩ by unfold Addr.add; split <;> simp_all] at this
      rw [this]
      simp [List.getD_eq_getElem?_getD]
      rw [List.getElem?_take, if_pos (by omega)]
theorem In.below {w w' : World} {a : Option Addr} {zs : List Int} (h : In w a zs) (hb : Below w.heap.size w w') : In w' a zs := by
  by_cases e : zs = []
  · exact .inl e
  · rcases h with h | ⟨b, off, rfl, hr⟩
    · exact absurd h e
    · have hp : 0 < zs.length := List.length_pos_iff.2 e
      exact .inr ⟨b, off, rfl, hr.below hb (World.block_lt_of_cell? w _ (hr.1 0 hp))⟩
theorem In.range {w : World} {a : Option Addr} {zs : List Int} (h : In w a zs) : ∀ n ∈ zs, 0 ≤ n ∧ n ≤ 255 := by
  rcases h with rfl | ⟨b, off, rfl, hr⟩
  · intro n hn; cases hn
  · exact hr.2
end Go.Proofs.YthgbhnedfdnfpaaGreatDoor

/- Marking and asking a slice of the call's own: contracts of markByteS, heldByteS, and eqByteS of two empty slices. -/
namespace Go.Proofs.YthgbhnedfdnfpaaGreatDoor
set_option maxRecDepth 100000
open Go.RowKit

def OnlyBlock (g : Nat) (w w' : World) : Prop := Below g w w' ∧ w'.heap.size = w.heap.size ∧ ∀ k, k ≠ g → w'.heap[k]? = w.heap[k]?
theorem OnlyBlock.refl (g : Nat) (w : World) : OnlyBlock g w w := ⟨Below.refl _ _, rfl, fun _ _ => rfl⟩
theorem OnlyBlock.store {g : Nat} {w w' : World} (h : OnlyBlock g w w') (k : Nat) (v : Value) : OnlyBlock g w (w'.setCell ⟨g, k, none⟩ v) :=
  ⟨h.1.setCell (Nat.le_refl _) v, by rw [← h.2.1]; simp, fun j hj => by rw [Below.heap_setCell _ _ _ _ (by exact hj)]; exact h.2.2 j hj⟩
def OwnV (w : World) (B : Nat) (v : Value) (n : Nat) (zs : List Int) : Prop := w.ownsRow B 5 1 v n (bv zs)
theorem OwnV.snoc {w wr w1 : World} {B n : Nat} {v v' : Value} {zs : List Int} {c : Int} {o : Obj} (h : OwnV wr B v n zs) (hB : B ≤ wr.heap.size) (hb : Below B w wr)
    (h' : w1.ownsRow B 5 1 v' (n + 1) (bv zs ++ [.int .u8 c])) (hg : (wr.alloc o).grownBy w1 v.ownBlock) : OwnV w1 B v' (n + 1) (zs ++ [c]) ∧ Below B w w1 :=
  ⟨by unfold OwnV; simpa [bv] using h', (hb.alloc hB o).grown hg (by simp; omega) (fun j hj => (World.ownsRow.lt h j hj).1)⟩
theorem OwnV.some {w : World} {B n : Nat} {v : Value} {zs : List Int} (h : OwnV w B v n zs) (hn : 0 < n) : ∃ g cap, v = .slice (some ⟨g, 0, none⟩) n cap ∧ OwnB w B g n cap zs := by
  rcases h.2 with ⟨_, h0⟩ | ⟨g, cap, cur, hv, _⟩
  · omega
  · subst hv
    exact ⟨g, cap, rfl, h⟩

theorem one_new (w : World) (v : Value) (t : TypeId) : ∀ j u, [v][j]? = some u → (w.alloc (.cells #[v] t)).cell? ((⟨w.heap.size, 0, none⟩ : Addr).add j) = some u := by
  intro j u hj
  match j, hj with
  | 0, hj => simp at hj; subst hj; simp [Addr.add]
end Go.Proofs.YthgbhnedfdnfpaaGreatDoor
