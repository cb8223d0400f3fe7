import Derived.Test.YthgbhnedfdnfpaaGreatDoorPkd
import Derived.Test.YthgbhnedfdnfpaaGreatDoorPkg
import Derived.Lib.Repeat
import Derived.Test.YthgbhnedfdnfpaaGreatDoorPkc
import Derived.Deep.OwnRows
import Derived.Lib.SmallJoins
import Derived.Deep.Slices
/- Canonical texts: plain functions: lines of parts, walks, numbers of lines. -/
namespace Go.Proofs.YthgbhnedfdnfpaaGreatDoor
set_option maxRecDepth 100000
set_option linter.unusedVariables false

theorem bytes_exP {a b : ByteArray} (h : a.data.toList = b.data.toList) : a = b := by
  apply ByteArray.ext
  exact Array.toList_inj.1 h
theorem app_asP (a b c : ByteArray) : a ++ b ++ c = a ++ (b ++ c) := by
  apply bytes_exP
  simp [ByteArray.data_append]
def indS (n : Nat) : ByteArray := ⟨(Lib.repeatL [32, 32] n).toArray⟩
theorem repL_comm (l : List UInt8) : ∀ n, Lib.repeatL l n ++ l = l ++ Lib.repeatL l n
  | 0 => by simp [Lib.repeatL]
  | n + 1 => by
    show (l ++ Lib.repeatL l n) ++ l = l ++ (l ++ Lib.repeatL l n)
    rw [List.append_assoc, repL_comm l n]
theorem indS_succ (n : Nat) : indS n ++ ⟨#[32, 32]⟩ = indS (n + 1) := by
  apply bytes_exP
  show (indS n ++ ⟨#[32, 32]⟩).data.toList = ([32, 32] ++ Lib.repeatL [32, 32] n)
  rw [ByteArray.data_append, Array.toList_append]
  exact repL_comm [32, 32] n
theorem indS_zero : indS 0 = ⟨#[]⟩ := rfl
theorem indS_size (n : Nat) : (indS n).size = 2 * n := by
  have h := Lib.repeatL_length [32, 32] n
  have e : (indS n).size = (Lib.repeatL [32, 32] n).length := by unfold indS; exact List.size_toArray
  rw [e, h]; simp; omega

def headN (ni nr ne nb nu no : Nat) : ByteArray :=
  ⟨#[99, 108, 97, 115, 115, 32]⟩ ++ numS ni ++ ⟨#[32, 114, 97, 116, 101, 32]⟩ ++ headS nr ++ ⟨#[32, 99, 101, 105, 108, 32]⟩ ++ headS ne ++
  ⟨#[32, 98, 117, 114, 115, 116, 32]⟩ ++ headS nb ++ ⟨#[32, 99, 98, 117, 114, 115, 116, 32]⟩ ++ headS nu ++ ⟨#[32, 112, 114, 105, 111, 32]⟩ ++ numS no
def headT (x : Cls) : ByteArray := headN x.i.toNat x.r.toNat x.e.toNat x.b.toNat x.u.toNat x.o.toNat
theorem headS_szP (n : Nat) : (headS n).size ≤ n + 2 := by
  have m1 := numS_size (n / 1000000)
  have m2 := numS_size (n / 1000)
  have m3 := numS_size n
  have q1 : (mF n).size ≤ n + 2 := by unfold mF; rw [ByteArray.size_append, size_lit]; omega
  have q2 : (kF n).size ≤ n + 2 := by unfold kF; rw [ByteArray.size_append, size_lit]; omega
  unfold headS formsL preL
  cases isM n
  · cases isK n
    · show (numS n).size ≤ _; omega
    · exact q2
  · cases isK n <;> exact q1
theorem headN_size (ni nr ne nb nu no : Nat) : (headN ni nr ne nb nu no).size ≤ 50 + ni + nr + ne + nb + nu + no := by
  have h1 := numS_size ni
  have h2 := headS_szP nr
  have h3 := headS_szP ne
  have h4 := headS_szP nb
  have h5 := headS_szP nu
  have h6 := numS_size no
  have z1 : (⟨#[99, 108, 97, 115, 115, 32]⟩ : ByteArray).size = 6 := rfl
  have z2 : (⟨#[32, 114, 97, 116, 101, 32]⟩ : ByteArray).size = 6 := rfl
  have z3 : (⟨#[32, 99, 101, 105, 108, 32]⟩ : ByteArray).size = 6 := rfl
  have z4 : (⟨#[32, 98, 117, 114, 115, 116, 32]⟩ : ByteArray).size = 7 := rfl
  have z5 : (⟨#[32, 99, 98, 117, 114, 115, 116, 32]⟩ : ByteArray).size = 8 := rfl
  have z6 : (⟨#[32, 112, 114, 105, 111, 32]⟩ : ByteArray).size = 6 := rfl
  unfold headN
  simp only [ByteArray.size_append]
  omega
def linesP (cs : List Cls) : Nat → Nat → Nat → List ByteArray
  | 0, _, _ => []
  | f + 1, l, i =>
    if hasK cs (cs.getD i cls0).i then
      (indS l ++ headT (cs.getD i cls0) ++ ⟨#[32, 123, 10]⟩) :: ((kids cs (cs.getD i cls0).i).flatMap (linesP cs f (l + 1)) ++ [indS l ++ ⟨#[125, 10]⟩])
    else [indS l ++ headT (cs.getD i cls0) ++ ⟨#[32, 108, 105, 109, 105, 116, 32]⟩ ++ headS (cs.getD i cls0).l.toNat ++ ⟨#[59, 10]⟩]
def walkP (cs : List Cls) : Nat → Nat → List Nat
  | 0, _ => []
  | f + 1, i => i :: (kids cs (cs.getD i cls0).i).flatMap (walkP cs f)
def sizeP (cs : List Cls) : Nat → Nat → Nat
  | 0, _ => 0
  | f + 1, i => if hasK cs (cs.getD i cls0).i then 2 + ((kids cs (cs.getD i cls0).i).map (sizeP cs f)).sum else 1
def branP (cs : List Cls) : Nat → Nat → Nat → List ByteArray
  | 0, _, _ => []
  | f + 1, l, i => (indS l ++ numS (cs.getD i cls0).i.toNat ++ ⟨#[10]⟩) :: (kids cs (cs.getD i cls0).i).flatMap (branP cs f (l + 1))
def lineP (cs : List Cls) : Nat → Nat → Nat
  | 0, _ => 0
  | f + 1, i => match fnd cs (cs.getD i cls0).p with
    | .none => 2
    | .some p => lineP cs f p + 1 + (((kids cs (cs.getD p cls0).i).takeWhile (fun k => k != i)).map (sizeP cs 9)).sum
def depP (cs : List Cls) (i : Nat) : Nat := (up cs 9 i).length
theorem linesP_len (cs : List Cls) : ∀ (f l i : Nat), (linesP cs f l i).length = sizeP cs f i
  | 0, _, _ => rfl
  | f + 1, l, i => by
    unfold linesP sizeP
    cases hasK cs (cs.getD i cls0).i
    · rfl
    · rw [if_pos rfl, if_pos rfl]
      have h : ∀ K : List Nat, (K.flatMap (linesP cs f (l + 1))).length = (K.map (sizeP cs f)).sum := by
        intro K
        induction K with
        | nil => rfl
        | cons k r ih => simp [linesP_len cs f (l + 1) k, ih]
      simp [h]; omega

structure TreeF (cs : List Cls) : Prop where
  ok : okL 0 cs = true
  node : ∀ k, k < cs.length → nodeOk cs k = true
  n24 : cs.length ≤ 24
theorem Good.tree {c : Cfg} (h : Good c) : TreeF c.cs := ⟨h.ok, h.node, h.n24⟩
theorem kids_mem {cs : List Cls} {id : Int} {k : Nat} (h : k ∈ kids cs id) : k < cs.length ∧ (cs.getD k cls0).p = id := by
  have hl := kidsF_lt id cs 0 k h
  refine ⟨by omega, ?_⟩
  have : ∀ (l : List Cls) (a : Nat), k ∈ kidsF id a l → (l.getD (k - a) cls0).p = id := by
    intro l
    induction l with
    | nil => intro a h; simp [kidsF] at h
    | cons y r ih =>
      intro a h
      unfold kidsF at h
      by_cases hy : y.p = id
      · rw [if_pos hy] at h
        rcases List.mem_cons.1 h with h | h
        · subst h; simpa using hy
        · have hb := kidsF_lt id r (a + 1) k h
          rw [show k - a = (k - (a + 1)) + 1 by omega, List.getD_cons_succ]
          exact ih (a + 1) h
      · rw [if_neg hy] at h
        have hb := kidsF_lt id r (a + 1) k h
        rw [show k - a = (k - (a + 1)) + 1 by omega, List.getD_cons_succ]
        exact ih (a + 1) h
  have := this cs 0 h
  simpa using this
theorem mem_kids {cs : List Cls} {id : Int} {k : Nat} (h : k < cs.length) (hp : (cs.getD k cls0).p = id) : k ∈ kids cs id := by
  have : ∀ (l : List Cls) (a j : Nat), j < l.length → (l.getD j cls0).p = id → a + j ∈ kidsF id a l := by
    intro l
    induction l with
    | nil => intro a j h; simp at h
    | cons y r ih =>
      intro a j hj hp
      unfold kidsF
      match j, hj, hp with
      | 0, _, hp => rw [if_pos (by simpa using hp)]; simp
      | j + 1, hj, hp =>
        have q := ih (a + 1) j (by simpa using hj) (by simpa using hp)
        rw [show a + 1 + j = a + (j + 1) by omega] at q
        split
        · exact List.mem_cons_of_mem _ q
        · exact q
  have := this cs 0 k h hp
  simpa [kids] using this
theorem kids_sorted (id : Int) : ∀ (l : List Cls) (a : Nat), (kidsF id a l).Pairwise (· < ·)
  | [], _ => List.Pairwise.nil
  | y :: r, a => by
    unfold kidsF
    split
    · refine List.Pairwise.cons (fun b hb => ?_) (kids_sorted id r (a + 1))
      have := kidsF_lt id r (a + 1) b hb
      omega
    · exact kids_sorted id r (a + 1)
theorem kids_nodup (cs : List Cls) (id : Int) : (kids cs id).Nodup := by
  refine List.Pairwise.imp ?_ (kids_sorted id cs 0)
  intro a b h
  exact Nat.ne_of_lt h
theorem up_more (cs : List Cls) : ∀ (f k : Nat), (up cs f k).length < f → up cs (f + 1) k = up cs f k
  | 0, _, h => absurd h (by omega)
  | f + 1, k, h => by
    show k :: (match fnd cs (cs.getD k cls0).p with | .none => [] | .some j => up cs (f + 1) j) = k :: (match fnd cs (cs.getD k cls0).p with | .none => [] | .some j => up cs f j)
    have h2 : (k :: (match fnd cs (cs.getD k cls0).p with | .none => [] | .some j => up cs f j)).length < f + 1 := h
    cases hf : fnd cs (cs.getD k cls0).p with
    | none => rfl
    | some j =>
      rw [hf] at h2
      simp only [List.length_cons] at h2
      show k :: up cs (f + 1) j = k :: up cs f j
      rw [up_more cs f j (by omega)]
theorem way_len {cs : List Cls} (T : TreeF cs) {k : Nat} (hk : k < cs.length) : 1 ≤ depP cs k ∧ depP cs k ≤ 8 := by
  have h := T.node k hk
  unfold nodeOk wayOk at h
  simp only [Bool.and_eq_true, decide_eq_true_eq] at h
  refine ⟨?_, h.1.1⟩
  obtain ⟨r, hr⟩ := up_cons cs 8 k
  unfold depP
  rw [hr]; simp
theorem par_kid {cs : List Cls} (T : TreeF cs) {i k : Nat} (hi : i < cs.length) (hk : k ∈ kids cs (cs.getD i cls0).i) : fnd cs (cs.getD k cls0).p = Option.some i := by
  rw [(kids_mem hk).2]
  exact fnd_inc (okL_inc cs 0 T.ok) hi
theorem dep_some {cs : List Cls} (T : TreeF cs) {i k : Nat} (hk : k < cs.length) (hf : fnd cs (cs.getD k cls0).p = Option.some i) : depP cs k = depP cs i + 1 := by
  have h8 := (way_len T hk).2
  have e : up cs 9 k = k :: up cs 8 i := by
    show k :: (match fnd cs (cs.getD k cls0).p with | .none => [] | .some j => up cs 8 j) = _
    rw [hf]
  unfold depP at h8 ⊢
  rw [e, List.length_cons] at h8
  rw [e, List.length_cons, up_more cs 8 i (by omega)]
theorem dep_kid {cs : List Cls} (T : TreeF cs) {i k : Nat} (hi : i < cs.length) (hk : k ∈ kids cs (cs.getD i cls0).i) : depP cs k = depP cs i + 1 :=
  dep_some T (kids_mem hk).1 (par_kid T hi hk)
theorem dep_none {cs : List Cls} {k : Nat} (hf : fnd cs (cs.getD k cls0).p = Option.none) : depP cs k = 1 := by
  have e : up cs 9 k = [k] := by
    show k :: (match fnd cs (cs.getD k cls0).p with | .none => [] | .some j => up cs 8 j) = _
    rw [hf]
  unfold depP
  rw [e]; rfl
theorem leaf_kids {cs : List Cls} {id : Int} (h : hasK cs id = false) : kids cs id = [] := (kidsF_nil id cs 0).2 h

theorem map_same {α β : Type} {f g : α → β} : ∀ (l : List α), (∀ x ∈ l, f x = g x) → l.map f = l.map g
  | [], _ => rfl
  | a :: r, h => by rw [List.map_cons, List.map_cons, h a (by simp), map_same r (fun x hx => h x (by simp [hx]))]
theorem flat_same {α β : Type} {f g : α → List β} : ∀ (l : List α), (∀ x ∈ l, f x = g x) → l.flatMap f = l.flatMap g
  | [], _ => rfl
  | a :: r, h => by rw [List.flatMap_cons, List.flatMap_cons, h a (by simp), flat_same r (fun x hx => h x (by simp [hx]))]
theorem sizeP_more {cs : List Cls} (T : TreeF cs) : ∀ (f i : Nat), i < cs.length → 9 ≤ f + depP cs i → sizeP cs (f + 1) i = sizeP cs f i
  | 0, i, hi, h => absurd h (by have := (way_len T hi).2; omega)
  | f + 1, i, hi, h => by
    show (if hasK cs (cs.getD i cls0).i then 2 + ((kids cs (cs.getD i cls0).i).map (sizeP cs (f + 1))).sum else 1) = (if hasK cs (cs.getD i cls0).i then 2 + ((kids cs (cs.getD i cls0).i).map (sizeP cs f)).sum else 1)
    rw [map_same (f := sizeP cs (f + 1)) (g := sizeP cs f) _ (fun k hk => sizeP_more T f k (kids_mem hk).1 (by have := dep_kid T hi hk; omega))]
theorem sizeP_nine {cs : List Cls} (T : TreeF cs) {i : Nat} (hi : i < cs.length) : ∀ (m f : Nat), f + m = 9 → 9 ≤ f + depP cs i → sizeP cs f i = sizeP cs 9 i
  | 0, f, hf, h => by rw [show f = 9 by omega]
  | m + 1, f, hf, h => by rw [← sizeP_more T f i hi h]; exact sizeP_nine T hi m (f + 1) (by omega) (by omega)
theorem lineP_more {cs : List Cls} (T : TreeF cs) : ∀ (f i : Nat), i < cs.length → depP cs i ≤ f → lineP cs (f + 1) i = lineP cs f i
  | 0, i, hi, h => absurd h (by have := (way_len T hi).1; omega)
  | f + 1, i, hi, h => by
    show (match fnd cs (cs.getD i cls0).p with | .none => 2 | .some p => lineP cs (f + 1) p + 1 + (((kids cs (cs.getD p cls0).i).takeWhile (fun k => k != i)).map (sizeP cs 9)).sum) = (match fnd cs (cs.getD i cls0).p with | .none => 2 | .some p => lineP cs f p + 1 + (((kids cs (cs.getD p cls0).i).takeWhile (fun k => k != i)).map (sizeP cs 9)).sum)
    cases hf : fnd cs (cs.getD i cls0).p with
    | none => rfl
    | some p =>
      have hd := dep_some T hi hf
      show lineP cs (f + 1) p + 1 + _ = lineP cs f p + 1 + _
      rw [lineP_more T f p (fnd_get cs _ p hf).1 (by omega)]
theorem take_until (k : Nat) : ∀ (a b : List Nat), k ∉ a → (a ++ k :: b).takeWhile (fun j => j != k) = a
  | [], b, _ => by simp
  | x :: r, b, h => by
    have h1 : x ≠ k := fun e => h (by simp [e])
    have h2 : k ∉ r := fun e => h (by simp [e])
    rw [List.cons_append, List.takeWhile_cons, if_pos (by simpa using h1), take_until k r b h2]
theorem lineP_kid {cs : List Cls} (T : TreeF cs) {i k : Nat} (hi : i < cs.length) (a b : List Nat) (hk : kids cs (cs.getD i cls0).i = a ++ k :: b) :
    lineP cs 9 k = lineP cs 9 i + 1 + (a.map (sizeP cs 9)).sum := by
  have hm : k ∈ kids cs (cs.getD i cls0).i := by rw [hk]; simp
  have hf := par_kid T hi hm
  have hd := dep_kid T hi hm
  have h8 := (way_len T (kids_mem hm).1).2
  have hn := kids_nodup cs (cs.getD i cls0).i
  rw [hk] at hn
  have hka : k ∉ a := by
    intro h
    have := (List.nodup_append.1 hn).2.2 k h k (by simp)
    exact this rfl
  have e : lineP cs 9 k = lineP cs 8 i + 1 + (((kids cs (cs.getD i cls0).i).takeWhile (fun j => j != k)).map (sizeP cs 9)).sum := by
    show (match fnd cs (cs.getD k cls0).p with | .none => 2 | .some p => lineP cs 8 p + 1 + (((kids cs (cs.getD p cls0).i).takeWhile (fun j => j != k)).map (sizeP cs 9)).sum) = _
    rw [hf]
  rw [e, lineP_more T 8 i hi (by omega), hk, take_until k a b hka]
theorem lineP_top {cs : List Cls} {i : Nat} (h : fnd cs (cs.getD i cls0).p = Option.none) : lineP cs 9 i = 2 := by
  show (match fnd cs (cs.getD i cls0).p with | .none => 2 | .some p => lineP cs 8 p + 1 + (((kids cs (cs.getD p cls0).i).takeWhile (fun j => j != i)).map (sizeP cs 9)).sum) = _
  rw [h]

theorem walk_self (cs : List Cls) (f i : Nat) : i ∈ walkP cs (f + 1) i := by unfold walkP; simp
theorem walk_in {cs : List Cls} (T : TreeF cs) {t i : Nat} (hi : i < cs.length) (hu : ∀ j, j < cs.length → fnd cs (cs.getD j cls0).p = Option.none → j = t) : i ∈ walkP cs 8 t := by
  have key : ∀ (d i : Nat), i < cs.length → depP cs i = d + 1 → i ∈ walkP cs (d + 1) t := by
    intro d
    induction d with
    | zero =>
      intro i hi hd
      have hn : fnd cs (cs.getD i cls0).p = Option.none := by
        cases hf : fnd cs (cs.getD i cls0).p with
        | none => rfl
        | some p => have := dep_some T hi hf; have := (way_len T (fnd_get cs _ p hf).1).1; omega
      rw [hu i hi hn]
      exact walk_self cs 0 t
    | succ d ih =>
      intro i hi hd
      cases hf : fnd cs (cs.getD i cls0).p with
      | none => have := dep_none hf; omega
      | some p =>
        have hp := fnd_get cs _ p hf
        have hpd := dep_some T hi hf
        have q := ih p hp.1 (by omega)
        have hik : i ∈ kids cs (cs.getD p cls0).i := mem_kids hi hp.2.symm
        -- going one deeper
        have deep : ∀ (e t : Nat), p ∈ walkP cs e t → i ∈ walkP cs (e + 1) t := by
          intro e
          induction e with
          | zero => intro t h; simp [walkP] at h
          | succ e ihe =>
            intro t h
            unfold walkP at h
            rcases List.mem_cons.1 h with h | h
            · subst h
              show i ∈ p :: (kids cs (cs.getD p cls0).i).flatMap (walkP cs (e + 1))
              exact List.mem_cons_of_mem _ (List.mem_flatMap.2 ⟨i, hik, walk_self cs e i⟩)
            · obtain ⟨k, hk, hkm⟩ := List.mem_flatMap.1 h
              show i ∈ t :: (kids cs (cs.getD t cls0).i).flatMap (walkP cs (e + 1))
              exact List.mem_cons_of_mem _ (List.mem_flatMap.2 ⟨k, hk, ihe k hkm⟩)
        exact deep (d + 1) t q
  have mono : ∀ (e t j : Nat), j ∈ walkP cs e t → j ∈ walkP cs (e + 1) t := by
    intro e
    induction e with
    | zero => intro t j h; simp [walkP] at h
    | succ e ihe =>
      intro t j h
      unfold walkP at h
      rcases List.mem_cons.1 h with h | h
      · subst h; exact walk_self cs (e + 1) j
      · obtain ⟨k, hk, hkm⟩ := List.mem_flatMap.1 h
        show j ∈ t :: (kids cs (cs.getD t cls0).i).flatMap (walkP cs (e + 1))
        exact List.mem_cons_of_mem _ (List.mem_flatMap.2 ⟨k, hk, ihe k j hkm⟩)
  have up8 : ∀ (m e : Nat), e + m = 8 → i ∈ walkP cs e t → i ∈ walkP cs 8 t := by
    intro m
    induction m with
    | zero => intro e he h; rw [show e = 8 by omega] at h; exact h
    | succ m ihm => intro e he h; exact ihm (e + 1) (by omega) (mono e t i h)
  have hw := way_len T hi
  have := key (depP cs i - 1) i hi (by omega)
  exact up8 (8 - (depP cs i - 1 + 1)) _ (by omega) this
theorem walk_lt {cs : List Cls} : ∀ (f i : Nat), i < cs.length → ∀ j ∈ walkP cs f i, j < cs.length
  | 0, _, _, j, h => by simp [walkP] at h
  | f + 1, i, hi, j, h => by
    unfold walkP at h
    rcases List.mem_cons.1 h with h | h
    · omega
    · obtain ⟨k, hk, hkm⟩ := List.mem_flatMap.1 h
      exact walk_lt f k (kids_mem hk).1 j hkm

theorem spK_sum (cs : List Cls) : ∀ (K : List Nat) (n : Int), spK cs n K = n - (K.map (fun k => (cs.getD k cls0).r)).sum
  | [], n => by simp [spK]
  | k :: r, n => by
    unfold spK
    rw [spK_sum cs r, List.map_cons, List.sum_cons]
    omega
theorem kid_rates {cs : List Cls} (T : TreeF cs) {i : Nat} (hi : i < cs.length) : ((kids cs (cs.getD i cls0).i).map (fun k => (cs.getD k cls0).r)).sum ≤ (cs.getD i cls0).r := by
  have h := T.node i hi
  unfold nodeOk at h
  simp only [Bool.and_eq_true, decide_eq_true_eq] at h
  have h2 := h.2.1
  rw [← spare_kids, spK_sum] at h2
  omega
theorem walk_few {cs : List Cls} (T : TreeF cs) : ∀ (f i : Nat), i < cs.length → ((walkP cs f i).length : Int) ≤ f * (cs.getD i cls0).r
  | 0, i, _ => by simp [walkP]
  | f + 1, i, hi => by
    have hr := (rateOk_r (okL_ids cs 0 T.ok i hi).2.2).1
    have hs := kid_rates T hi
    have : ∀ K : List Nat, (∀ k ∈ K, k < cs.length) → (((K.flatMap (walkP cs f)).length : Nat) : Int) ≤ f * (K.map (fun k => (cs.getD k cls0).r)).sum := by
      intro K
      induction K with
      | nil => intro _; simp
      | cons k r ih =>
        intro hK
        have q := walk_few T f k (hK k (by simp))
        have q2 := ih (fun j hj => hK j (by simp [hj]))
        rw [List.flatMap_cons, List.length_append, List.map_cons, List.sum_cons, Int.mul_add]
        push_cast
        omega
    have q := this (kids cs (cs.getD i cls0).i) (fun k hk => (kids_mem hk).1)
    show (((i :: (kids cs (cs.getD i cls0).i).flatMap (walkP cs f)).length : Nat) : Int) ≤ _
    rw [List.length_cons]
    have q3 : (f : Int) * ((kids cs (cs.getD i cls0).i).map (fun k => (cs.getD k cls0).r)).sum ≤ f * (cs.getD i cls0).r := Int.mul_le_mul_of_nonneg_left hs (by omega)
    push_cast
    rw [Int.add_mul]
    omega
theorem size_walk (cs : List Cls) : ∀ (f i : Nat), sizeP cs f i ≤ 2 * (walkP cs f i).length
  | 0, i => by simp [sizeP]
  | f + 1, i => by
    unfold sizeP walkP
    have : ∀ K : List Nat, (K.map (sizeP cs f)).sum ≤ 2 * (K.flatMap (walkP cs f)).length := by
      intro K
      induction K with
      | nil => simp
      | cons k r ih =>
        have := size_walk cs f k
        simp only [List.map_cons, List.sum_cons, List.flatMap_cons, List.length_append]
        omega
    have := this (kids cs (cs.getD i cls0).i)
    split <;> simp only [List.length_cons] <;> omega

def catS (l : List ByteArray) : ByteArray := ⟨(l.flatMap (fun s => s.data.toList)).toArray⟩
theorem catS_list (l : List ByteArray) : (catS l).data.toList = l.flatMap (fun s => s.data.toList) := by unfold catS; simp
theorem catS_nil : catS [] = ⟨#[]⟩ := rfl
theorem catS_append (a b : List ByteArray) : catS (a ++ b) = catS a ++ catS b := by
  apply bytes_exP
  rw [ByteArray.data_append, Array.toList_append, catS_list, catS_list, catS_list, List.flatMap_append]
theorem catS_one (s : ByteArray) : catS [s] = s := by
  apply bytes_exP
  rw [catS_list]; simp
theorem catS_cons (s : ByteArray) (l : List ByteArray) : catS (s :: l) = s ++ catS l := by
  rw [show s :: l = [s] ++ l from rfl, catS_append, catS_one]
theorem catS_size (M : Nat) : ∀ (l : List ByteArray), (∀ s ∈ l, s.size ≤ M) → (catS l).size ≤ l.length * M
  | [], _ => by simp [catS, ByteArray.size]
  | s :: r, h => by
    have h1 := h s (by simp)
    have h2 := catS_size M r (fun t ht => h t (by simp [ht]))
    rw [catS_cons, ByteArray.size_append, List.length_cons, Nat.add_mul]
    omega
end Go.Proofs.YthgbhnedfdnfpaaGreatDoor

/- Rows of cells in memory; arguments that are structs of integers or slices of such: opened. -/
namespace Go.Proofs.YthgbhnedfdnfpaaGreatDoor
set_option maxRecDepth 100000
open Go.RowKit
set_option linter.unusedVariables false

def SaysT2 (w : World) (r1 r2 : Value) (e : Ending) (w' : World) : Prop := e = .returned (.tuple #[r1, r2]) ∧ Below w.heap.size w w'
theorem ret_ib {a b : Int} {p q : Bool} (h : a = b) (h' : p = q) : Ending.returned (.tuple #[.int .i64 a, .bool p]) = .returned (.tuple #[.int .i64 b, .bool q]) := by rw [h, h']
def AtC (w : World) (g : Nat) (xs : List Value) : Prop := ∀ j, j < xs.length → w.cell? ⟨g, j, none⟩ = xs[j]?
theorem AtC.below {w w' : World} {g B : Nat} {xs : List Value} (h : AtC w g xs) (hb : Below B w w') (hg : g < B) : AtC w' g xs := fun j hj => (hb.cell (p := ⟨g, j, none⟩) hg).trans (h j hj)
theorem AtC.at {w : World} {g : Nat} {xs : List Value} (h : AtC w g xs) (j : Nat) {u : Value} (hu : xs[j]? = some u) : w.cell? ⟨g, j, none⟩ = some u := by
  rw [h j (by have := List.getElem?_eq_some_iff.1 hu; exact this.1)]; exact hu
def InX (w : World) (ad : Option Addr) (n : Nat) (xs : List Value) : Prop := 0 < n → ∃ g, ad = some ⟨g, 0, none⟩ ∧ AtC w g xs ∧ g < w.heap.size
theorem InX.below {w w' : World} {ad : Option Addr} {n : Nat} {xs : List Value} (h : InX w ad n xs) (hb : Below w.heap.size w w') : InX w' ad n xs := fun hn => by
  obtain ⟨g, ha, ht, hg⟩ := h hn
  exact ⟨g, ha, ht.below hb hg, Nat.lt_of_lt_of_le hg hb.size⟩
theorem own_below {w w' : World} {B B' n z : Nat} {T : TypeId} {v : Value} {xs : List Value} (h : w.ownsRow B T z v n xs) (hb : Below B' w w') (hB : ∀ g, v.ownBlock = some g → g < B') : w'.ownsRow B T z v n xs := by
  have h0 := h
  obtain ⟨h1, h2⟩ := h
  refine ⟨h1, ?_⟩
  rcases h2 with h2 | ⟨g, cap, cur, a, b, c, d⟩
  · exact .inl h2
  · exact .inr ⟨g, cap, cur, a, b, by rw [hb.block g (hB g (by rw [a]; rfl))]; exact c, d⟩
theorem own_low {w w' : World} {B B' n z : Nat} {T : TypeId} {v : Value} {xs : List Value} (h : w.ownsRow B T z v n xs) (hb : Below B' w w') (hB : w.heap.size ≤ B') : w'.ownsRow B T z v n xs :=
  own_below h hb (fun g hg => Nat.lt_of_lt_of_le (World.ownsRow.lt h g hg).2 hB)
theorem own_base {w : World} {B B' n z : Nat} {T : TypeId} {v : Value} {xs : List Value} (h : w.ownsRow B T z v n xs) (hB : B' ≤ B) : w.ownsRow B' T z v n xs := by
  obtain ⟨h1, h2⟩ := h
  refine ⟨h1, ?_⟩
  rcases h2 with h2 | ⟨g', cap', cur, a, b, c, d⟩
  · exact .inl h2
  · exact .inr ⟨g', cap', cur, a, Nat.le_trans hB b, c, d⟩
theorem own_set {w : World} {B n z : Nat} {T : TypeId} {v : Value} {xs : List Value} (h : w.ownsRow B T z v n xs) {p : Addr} (hp : p.block < B) (u : Value) : (w.setCell p u).ownsRow B T z v n xs := by
  obtain ⟨h1, h2⟩ := h
  refine ⟨h1, ?_⟩
  rcases h2 with h2 | ⟨g', cap', cur, a, b, c, d⟩
  · exact .inl h2
  · exact .inr ⟨g', cap', cur, a, b, by rw [Go.Deep.blk_setCell_other _ _ _ _ (by omega)]; exact c, d⟩
theorem own_in {w : World} {B n z : Nat} {T : TypeId} {v : Value} {xs : List Value} (h : w.ownsRow B T z v n xs) : ∃ ad c, v = .slice ad n c ∧ InX w ad n xs := by
  have h0 := h
  rcases h.2 with ⟨hv, hn⟩ | ⟨g, cap, cur, hv, _⟩
  · subst hn; exact ⟨none, 0, hv, fun h => absurd h (by omega)⟩
  · refine ⟨_, _, hv, fun _ => ⟨g, rfl, fun j hj => ?_, (World.ownsRow.lt h0 g (by rw [hv]; rfl)).2⟩⟩
    subst hv
    exact World.ownsRow.cellAt h0 j (by rw [← h0.1]; exact hj)

theorem one_int (w : World) (v : Value) (t : TypeId) : ∀ j u, [v][j]? = some u → (w.alloc (.cells #[v] t)).cell? ((⟨w.heap.size, 0, none⟩ : Addr).add j) = some u := by
  intro j u hu
  match j, hu with
  | 0, hu => simp at hu; subst hu; simp [Addr.add]
theorem own_inx {w : World} {B n z g c : Nat} {T : TypeId} {xs : List Value} (h : w.ownsRow B T z (.slice (some ⟨g, 0, none⟩) n c) n xs) : InX w (some ⟨g, 0, none⟩) n xs := by
  obtain ⟨ad, c', e, hi⟩ := own_in h
  cases e
  exact hi
def OffC (w : World) (b off : Nat) (xs : List Value) : Prop := ∀ j, j < xs.length → w.cell? ⟨b, off + j, none⟩ = xs[j]?
def ArgX (w : World) (ad : Option Addr) (n : Nat) (xs : List Value) : Prop := 0 < n → ∃ b off, ad = some ⟨b, off, none⟩ ∧ OffC w b off xs ∧ b < w.heap.size
theorem OffC.below {w w' : World} {b off B : Nat} {xs : List Value} (h : OffC w b off xs) (hb : Below B w w') (hg : b < B) : OffC w' b off xs := fun j hj => (hb.cell (p := ⟨b, off + j, none⟩) hg).trans (h j hj)
theorem ArgX.below {w w' : World} {ad : Option Addr} {n : Nat} {xs : List Value} (h : ArgX w ad n xs) (hb : Below w.heap.size w w') : ArgX w' ad n xs := fun hn => by
  obtain ⟨b, off, ha, ht, hg⟩ := h hn
  exact ⟨b, off, ha, ht.below hb hg, Nat.lt_of_lt_of_le hg hb.size⟩
theorem OffC.at {w : World} {b off : Nat} {xs : List Value} (h : OffC w b off xs) (j : Nat) {u : Value} (hu : xs[j]? = some u) : w.cell? ⟨b, off + j, none⟩ = some u := by
  rw [h j (by have := List.getElem?_eq_some_iff.1 hu; exact this.1)]; exact hu
theorem own_store {w : World} {B g n c z : Nat} {T : TypeId} {xs : List Value} (h : w.ownsRow B T z (.slice (some ⟨g, 0, none⟩) n c) n xs) (j : Nat) (v : Value) : (w.setCell ⟨g, j, none⟩ v).ownsRow B T z (.slice (some ⟨g, 0, none⟩) n c) n (xs.set j v) := (World.ownsRow.stored h j v).1
open Go.Joins Go.ChangeShapes Go.WideShapes Go.Deep
section
variable {H : Type} {enc : TypeId × Value → H} {w : World} {base : Nat} {spare : Nat → Bool} {held : Bool}
end
end Go.Proofs.YthgbhnedfdnfpaaGreatDoor
