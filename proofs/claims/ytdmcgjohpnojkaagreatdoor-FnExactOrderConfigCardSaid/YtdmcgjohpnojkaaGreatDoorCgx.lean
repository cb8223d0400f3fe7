/- A row of structs of the call's own, sorted: what the sort's world says of it. Lists put in order by a key: plain functions and facts. The program sorts the classes and the filters of a configuration. OrderConfig, the program's. -/
import Derived.Shelf.SlSortCmp.InsertionK
import Derived.Lib.AppendIntMem
import Derived.Test.YtdmcgjohpnojkaaGreatDoorOpn
import Derived.Test.YtdmcgjohpnojkaaGreatDoorCfp
import Derived.Test.YtdmcgjohpnojkaaGreatDoorCgw
import Derived.Test.YtdmcgjohpnojkaaGreatDoorIsi
import Derived.Test.YtdmcgjohpnojkaaGreatDoorSrl
namespace Go.Proofs.YtdmcgjohpnojkaaGreatDoor
set_option maxRecDepth 100000
open Go.RowKit
set_option linter.unusedVariables false

theorem flat_get {α : Type} [Inhabited α] (enc : α → List Value) (k : Nat) (hk : ∀ x, (enc x).length = k) : ∀ (l : List α) (t : Nat), t < l.length * k → (l.flatMap enc)[t]? = (enc (l[t / k]!))[t % k]?
  | [], t, h => absurd h (by simp)
  | x :: r, t, h => by
    have k0 : 0 < k := by
      rcases Nat.eq_zero_or_pos k with h0 | h0
      · subst h0; simp at h
      · exact h0
    rw [List.flatMap_cons]
    by_cases ht : t < k
    · rw [List.getElem?_append_left (by rw [hk]; exact ht), Nat.div_eq_of_lt ht, Nat.mod_eq_of_lt ht]; rfl
    · obtain ⟨u, rfl⟩ : ∃ u, t = u + k := ⟨t - k, by omega⟩
      rw [List.getElem?_append_right (by rw [hk]; omega), hk, Nat.add_sub_cancel, Nat.add_div_right _ k0, Nat.add_mod_right]
      rw [flat_get enc k hk r u (by rw [List.length_cons, Nat.add_mul] at h; omega)]
      rfl
theorem flat_len {α : Type} (enc : α → List Value) (k : Nat) (hk : ∀ x, (enc x).length = k) : ∀ (l : List α), (l.flatMap enc).length = l.length * k
  | [] => by simp
  | x :: r => by rw [List.flatMap_cons, List.length_append, flat_len enc k hk r, hk, List.length_cons, Nat.add_mul]; omega
theorem flatK_list {α : Type} [Inhabited α] (enc : α → List Value) (k : Nat) (hk : ∀ x, (enc x).length = k) (d : Array α) : Sort.flatK enc k d = (d.toList.flatMap enc).toArray := by
  refine Sort.ext_get! (by simp [flat_len enc k hk]) fun t ht => ?_
  have ht' : t < d.size * k := by rw [Sort.size_flatK] at ht; exact ht
  have e := flat_get enc k hk d.toList t (by rw [Array.length_toList]; exact ht')
  rw [Sort.get_flatK _ _ _ t ht']
  rw [List.getElem!_toArray, List.getElem!_toArray]
  have f : (d.toList.flatMap enc)[t]! = (enc d.toList[t / k]!)[t % k]! := by rw [List.getElem!_eq_getElem?_getD, e, List.getElem!_eq_getElem?_getD (l := enc d.toList[t / k]!)]
  exact f.symm
theorem own_cells {B g n c z : Nat} {T : TypeId} : ∀ (vs pre rest : List Value) (w : World), rest.length = vs.length → w.ownsRow B T z (.slice (some ⟨g, 0, none⟩) n c) n (pre ++ rest) →
    (w.setCells g pre.length vs).ownsRow B T z (.slice (some ⟨g, 0, none⟩) n c) n (pre ++ vs) ∧ Below B w (w.setCells g pre.length vs) ∧ (w.setCells g pre.length vs).heap.size = w.heap.size ∧ ∀ q, q ≠ g → (w.setCells g pre.length vs).heap[q]? = w.heap[q]?
  | [], pre, rest, w, hl, h => by
    obtain rfl : rest = [] := List.eq_nil_of_length_eq_zero hl
    exact ⟨h, Below.refl _ _, rfl, fun _ _ => rfl⟩
  | v :: r, pre, [], w, hl, h => absurd hl (by simp)
  | v :: r, pre, y :: rest, w, hl, h => by
    have h1 := own_store h pre.length v
    have hgB : B ≤ g := (World.ownsRow.lt h g rfl).1
    rw [show (pre ++ y :: rest).set pre.length v = (pre ++ [v]) ++ rest by simp] at h1
    obtain ⟨a, b, s, d⟩ := own_cells r (pre ++ [v]) rest _ (by simpa using hl) h1
    rw [show (pre ++ [v]).length = pre.length + 1 by simp] at a b s d
    rw [show (pre ++ [v]) ++ r = pre ++ v :: r by simp] at a
    refine ⟨a, ((Below.refl _ _).setCell (p := ⟨g, pre.length, none⟩) hgB v).trans b, ?_, fun q hq => ?_⟩
    · exact s.trans (Go.Deep.nblk_setCell _ _ _)
    · exact (d q hq).trans (Below.heap_setCell w ⟨g, pre.length, none⟩ v q hq)
theorem own_holds {α : Type} [Inhabited α] (enc : α → List Value) (k : Nat) (hk : ∀ x, (enc x).length = k) {w : World} {B g c : Nat} {T : TypeId} {d : Array α} (h : w.ownsRow B T k (.slice (some ⟨g, 0, none⟩) d.size c) d.size (d.toList.flatMap enc)) : Sort.HoldsK enc k w g 0 d := by
  intro j hj
  rw [Sort.size_flatK] at hj
  rw [flatK_list enc k hk, Nat.zero_add]
  refine ⟨?_, World.ownsRow.frozenAt h j⟩
  rw [World.ownsRow.cellAt h j hj, List.getElem!_toArray, List.getElem?_eq_getElem (by rw [flat_len enc k hk, Array.length_toList]; exact hj)]
  rw [List.getElem!_eq_getElem?_getD, List.getElem?_eq_getElem (by rw [flat_len enc k hk, Array.length_toList]; exact hj)]
  rfl
theorem sort_world {α : Type} [Inhabited α] (enc : α → List Value) (k : Nat) (hk : ∀ x, (enc x).length = k) {w : World} {g : Nat} {d d' : Array α} (hd : d'.size = d.size) (h : Sort.HoldsK enc k w g 0 d) (m : Nat) (os : Array Obj) :
    sortWorldK enc k w g 0 m d' os = Sort.grow (((w.drewN m).setCells g 0 (d'.toList.flatMap enc)).drewN 0) os := by
  show Sort.grow (Sort.putRowK enc k (Sort.ahead w m) g 0 d') os = Sort.grow ((w.drewN m).setCells g 0 (d'.toList.flatMap enc)) os
  congr 1
  have hs := Sort.putRow_self id (Sort.ahead w m) g 0 (Sort.flatK enc k d) h
  have e := Sort.setCells_putRow (Sort.ahead w m) g 0 (d'.toList.flatMap enc) 0 (Sort.flatK enc k d) (by rw [flat_len enc k hk, Sort.size_flatK, Array.length_toList, hd]; omega)
  rw [hs] at e
  have f : Sort.setMany (Sort.flatK enc k d) 0 (d'.toList.flatMap enc) = Sort.flatK enc k d' := by
    refine Sort.ext_get! (by simp [hd]) fun t ht => ?_
    rw [Sort.size_setMany] at ht
    have ht2 : t < d'.size * k := by rw [Sort.size_flatK, ← hd] at ht; exact ht
    rw [Sort.get_setMany _ _ _ t ht, if_pos ⟨Nat.zero_le _, by rw [flat_len enc k hk, Array.length_toList]; omega⟩, flatK_list enc k hk d', List.getElem!_toArray, Nat.sub_zero]
  rw [f] at e
  exact e.symm
theorem sorted_own {α : Type} [Inhabited α] (enc : α → List Value) (k : Nat) (hk : ∀ x, (enc x).length = k) {w : World} {B g c : Nat} {T : TypeId} {d d' : Array α} (hd : d'.size = d.size) (h : w.ownsRow B T k (.slice (some ⟨g, 0, none⟩) d.size c) d.size (d.toList.flatMap enc)) (m : Nat) (os : Array Obj) :
    (sortWorldK enc k w g 0 m d' os).ownsRow B T k (.slice (some ⟨g, 0, none⟩) d.size c) d.size (d'.toList.flatMap enc) ∧ Below B w (sortWorldK enc k w g 0 m d' os) ∧ ∀ q, q < w.heap.size → q ≠ g → (sortWorldK enc k w g 0 m d' os).heap[q]? = w.heap[q]? := by
  rw [sort_world enc k hk hd (own_holds enc k hk h) m os]
  have h0 : (w.drewN m).ownsRow B T k (.slice (some ⟨g, 0, none⟩) d.size c) d.size ([] ++ d.toList.flatMap enc) := h
  obtain ⟨a, b, s, e⟩ := own_cells (d'.toList.flatMap enc) [] (d.toList.flatMap enc) (w.drewN m) (by rw [flat_len enc k hk, flat_len enc k hk, Array.length_toList, Array.length_toList, hd]) h0
  have lt := World.ownsRow.lt h g rfl
  simp only [List.length_nil, List.nil_append] at a b s e
  have s' : ((w.drewN m).setCells g 0 (d'.toList.flatMap enc)).heap.size = w.heap.size := s
  refine ⟨Lib.ownsRow_grow a 0 os, ?_, fun q hq hqg => ?_⟩
  · have b0 : Below B w ((w.drewN m).setCells g 0 (d'.toList.flatMap enc)) := ⟨b.os, b.tape, b.output, b.size, b.block⟩
    exact b0.trans (Lib.below_grow B _ (by rw [s']; omega) 0 os)
  · exact (Lib.heap_grow_old _ 0 os q (by rw [s']; exact hq)).trans (e q hqg)
theorem perm_lists {α : Type} [Inhabited α] {d d' : Array α} (h : Sort.PermIn 0 d.size d d') : d'.size = d.size ∧ d.toList.Perm d'.toList := by
  obtain ⟨hs, _, hp⟩ := h
  refine ⟨hs, ?_⟩
  rw [← hs] at hp
  have e1 : d'.extract 0 d'.size = d' := by simp
  have e2 : d.extract 0 d'.size = d := by rw [hs]; simp
  rw [e1, e2] at hp
  exact hp.symm
theorem sorted_pair {α : Type} [Inhabited α] {lt : α → α → Bool} {d : Array α} (h : Sort.SortedIn lt 0 d.size d) : d.toList.Pairwise (fun a b => lt b a = false) := by
  rw [List.pairwise_iff_getElem]
  intro i j hi hj hij
  have hj' : j < d.size := by simpa using hj
  have hi' : i < d.size := by simpa using hi
  have := h i j (Nat.zero_le _) hij hj'
  rw [getElem!_pos d i hi', getElem!_pos d j hj'] at this
  simpa using this
end Go.Proofs.YtdmcgjohpnojkaaGreatDoor

namespace Go.Proofs.YtdmcgjohpnojkaaGreatDoor
set_option linter.unusedVariables false

section
variable {α : Type} (key : α → Int)
/-- how many elements at the start have a less key -/
def plO : List α → Int → Nat
  | [], _ => 0
  | x :: r, v => if key x < v then plO r v + 1 else 0
/-- put behind all that have a less key -/
def putO (l : List α) (x : α) : List α := l.take (plO key l (key x)) ++ x :: l.drop (plO key l (key x))
def ordO (l : List α) : List α := l.foldl (putO key) []
theorem putO_less (y : α) (r : List α) (x : α) (h : key y < key x) : putO key (y :: r) x = y :: putO key r x := by
  unfold putO
  have e : plO key (y :: r) (key x) = plO key r (key x) + 1 := by conv => lhs; unfold plO; rw [if_pos h]
  rw [e]; rfl
theorem putO_not (y : α) (r : List α) (x : α) (h : ¬ key y < key x) : putO key (y :: r) x = x :: y :: r := by
  unfold putO
  have e : plO key (y :: r) (key x) = 0 := by conv => lhs; unfold plO; rw [if_neg h]
  rw [e]; rfl
theorem putO_perm (l : List α) (x : α) : (putO key l x).Perm (x :: l) := by
  unfold putO
  refine List.perm_middle.trans ?_
  rw [List.take_append_drop]
theorem putO_sorted : ∀ (l : List α) (x : α), l.Pairwise (fun a b => key a ≤ key b) → (putO key l x).Pairwise (fun a b => key a ≤ key b)
  | [], x, _ => by unfold putO; simp
  | y :: r, x, h => by
    rw [List.pairwise_cons] at h
    by_cases hy : key y < key x
    · rw [putO_less key y r x hy, List.pairwise_cons]
      refine ⟨fun b hb => ?_, putO_sorted r x h.2⟩
      rcases List.mem_cons.1 ((putO_perm key r x).mem_iff.1 hb) with hb | hb
      · subst hb; omega
      · exact h.1 b hb
    · rw [putO_not key y r x hy, List.pairwise_cons]
      refine ⟨fun b hb => ?_, List.pairwise_cons.2 h⟩
      rcases List.mem_cons.1 hb with hb | hb
      · subst hb; omega
      · have := h.1 b hb; omega
theorem foldO_perm : ∀ (l acc : List α), (l.foldl (putO key) acc).Perm (acc ++ l)
  | [], acc => by simp
  | x :: r, acc => by
    refine (foldO_perm r (putO key acc x)).trans ?_
    refine ((putO_perm key acc x).append_right r).trans ?_
    rw [List.cons_append]
    exact List.perm_middle.symm
theorem foldO_sorted : ∀ (l acc : List α), acc.Pairwise (fun a b => key a ≤ key b) → (l.foldl (putO key) acc).Pairwise (fun a b => key a ≤ key b)
  | [], acc, h => h
  | x :: r, acc, h => foldO_sorted r _ (putO_sorted key acc x h)
theorem ordO_perm (l : List α) : (ordO key l).Perm l := by
  have := foldO_perm key l []
  simpa [ordO] using this
theorem ordO_sorted (l : List α) : (ordO key l).Pairwise (fun a b => key a ≤ key b) := foldO_sorted key l [] List.Pairwise.nil
/-- two orders of the same elements, one of them without equal keys, are one -/
theorem order_one : ∀ (l m : List α), l.Perm m → l.Pairwise (fun a b => key a < key b) → m.Pairwise (fun a b => key a ≤ key b) → l = m
  | [], m, h, _, _ => (List.nil_perm.1 h).symm
  | x :: r, [], h, _, _ => absurd h.length_eq (by simp)
  | x :: r, y :: s, h, hl, hm => by
    rw [List.pairwise_cons] at hl hm
    have hx : x ∈ y :: s := h.mem_iff.1 (by simp)
    have hy : y ∈ x :: r := h.mem_iff.2 (by simp)
    have e : x = y := by
      rcases List.mem_cons.1 hy with hy | hy
      · exact hy.symm
      · rcases List.mem_cons.1 hx with hx | hx
        · exact hx
        · have h1 := hl.1 y hy
          have h2 := hm.1 x hx
          omega
    subst e
    rw [order_one r s h.cons_inv hl.2 hm.2]
end
theorem plc_O : ∀ (cs : List Cls) (id : Int), plc cs id = plO Cls.i cs id
  | [], _ => rfl
  | x :: r, id => by unfold plc plO; rw [plc_O r id]
theorem okL_more : ∀ (cs : List Cls) (b : Int), okL b cs = true → ∀ y ∈ cs, b < y.i
  | [], _, _, y, hy => by simp at hy
  | x :: r, b, h, y, hy => by
    unfold okL at h
    simp only [Bool.and_eq_true, decide_eq_true_eq] at h
    rcases List.mem_cons.1 hy with hy | hy
    · subst hy; exact h.1.1
    · have := okL_more r x.i h.2 y hy; omega
theorem okL_pair : ∀ (cs : List Cls) (b : Int), okL b cs = true → cs.Pairwise (fun a b => a.i < b.i)
  | [], _, _ => List.Pairwise.nil
  | x :: r, b, h => by
    unfold okL at h
    rw [Bool.and_eq_true] at h
    exact List.pairwise_cons.2 ⟨fun y hy => okL_more r x.i h.2 y hy, okL_pair r x.i h.2⟩
theorem okF_more : ∀ (fs : List Flt) (b : Int), okF b fs = true → ∀ y ∈ fs, b < y.o
  | [], _, _, y, hy => by simp at hy
  | x :: r, b, h, y, hy => by
    unfold okF at h
    simp only [Bool.and_eq_true, decide_eq_true_eq] at h
    rcases List.mem_cons.1 hy with hy | hy
    · subst hy; exact h.1.1
    · have := okF_more r x.o h.2 y hy; omega
theorem okF_pair : ∀ (fs : List Flt) (b : Int), okF b fs = true → fs.Pairwise (fun a b => a.o < b.o)
  | [], _, _ => List.Pairwise.nil
  | x :: r, b, h => by
    unfold okF at h
    rw [Bool.and_eq_true] at h
    exact List.pairwise_cons.2 ⟨fun y hy => okF_more r x.o h.2 y hy, okF_pair r x.o h.2⟩
/-- a valid order of a configuration's lists is the only one -/
theorem order_good {s : ByteArray} {cs cs' : List Cls} {fs fs' : List Flt} {d : Int} (hg : goodC ⟨s, cs, fs, d⟩ = true) (hc : cs.Perm cs') (hf : fs.Perm fs') (hc' : cs'.Pairwise (fun a b => a.i ≤ b.i)) (hf' : fs'.Pairwise (fun a b => a.o ≤ b.o)) :
    cs' = cs ∧ fs' = fs := by
  have h1 : okL 0 cs = true := (good_of hg).ok
  have h2 : okF 0 fs = true := by
    unfold goodC fltG at hg
    rw [mdF_eq] at hg
    simp only [Bool.and_eq_true] at hg
    exact hg.2.2.2.1.1.1
  exact ⟨(order_one Cls.i cs cs' hc (okL_pair cs 0 h1) hc').symm, (order_one Flt.o fs fs' hf (okF_pair fs 0 h2) hf').symm⟩
end Go.Proofs.YtdmcgjohpnojkaaGreatDoor

namespace Go.Proofs.YtdmcgjohpnojkaaGreatDoor
open Go.RowKit
set_option linter.unusedVariables false
set_option linter.unusedSimpArgs false

theorem putK_O : ∀ (L : List Cls) (id : Int), putK L id = plO Cls.i L id
  | [], _ => rfl
  | x :: r, id => by unfold putK plO; rw [putK_O r id]
theorem putKF_O : ∀ (L : List Flt) (id : Int), putKF L id = plO Flt.o L id
  | [], _ => rfl
  | x :: r, id => by unfold putKF plO; rw [putKF_O r id]
theorem ordC_O (cs : List Cls) : ordC cs = ordO Cls.i cs := by
  have e : putC = putO Cls.i := by funext L x; unfold putC putO; rw [putK_O]
  unfold ordC ordO; rw [e]
theorem ordF_O (fs : List Flt) : ordF fs = ordO Flt.o fs := by
  have e : putF = putO Flt.o := by funext L x; unfold putF putO; rw [putKF_O]
  unfold ordF ordO; rw [e]
/-- sorted lists of a configuration: the one that is made by putting in place, if either is valid -/
theorem order_same (s : ByteArray) {cs cs' : List Cls} {fs fs' : List Flt} (d : Int) (hc : cs.Perm cs') (hf : fs.Perm fs') (hc' : cs'.Pairwise (fun a b => a.i ≤ b.i)) (hf' : fs'.Pairwise (fun a b => a.o ≤ b.o)) :
    goodC ⟨s, cs', fs', d⟩ = goodC ⟨s, ordC cs, ordF fs, d⟩ ∧ (goodC ⟨s, ordC cs, ordF fs, d⟩ = true → cs' = ordC cs ∧ fs' = ordF fs) := by
  rw [ordC_O, ordF_O]
  have pc := (ordO_perm Cls.i cs).trans hc
  have pf := (ordO_perm Flt.o fs).trans hf
  cases hA : goodC ⟨s, ordO Cls.i cs, ordO Flt.o fs, d⟩ with
  | true =>
    obtain ⟨e1, e2⟩ := order_good hA pc pf hc' hf'
    exact ⟨by rw [e1, e2]; exact hA, fun _ => ⟨e1, e2⟩⟩
  | false =>
    refine ⟨?_, fun h => absurd h (by simp)⟩
    cases hB : goodC ⟨s, cs', fs', d⟩ with
    | false => rfl
    | true =>
      obtain ⟨e1, e2⟩ := order_good hB pc.symm pf.symm (ordO_sorted Cls.i cs) (ordO_sorted Flt.o fs)
      rw [e1, e2] at hA
      rw [hA] at hB
      exact hB.symm
theorem lt_key {α : Type} (key : α → Int) (x y : α) : ltOf (fun x y => cmpI (key x) (key y)) x y = decide (key x < key y) := by
  unfold ltOf cmpI
  by_cases h1 : key x < key y
  · simp [h1]
  · by_cases h2 : key y < key x <;> simp [h1, h2]
theorem swo_key {α : Type} (key : α → Int) : Sort.SWO (ltOf fun x y => cmpI (key x) (key y)) where
  irrefl x := by rw [lt_key]; simp
  trans x y z h1 h2 := by rw [lt_key] at *; simp at *; omega
  ntrans x y z h1 h2 := by rw [lt_key] at *; simp at *; omega
instance instCls : Inhabited Cls := ⟨cls0⟩
instance instFlt : Inhabited Flt := ⟨flt0⟩
/-- a sort's answer: the row holds the same elements by increasing keys, all else of this call is as it was -/
def SaysSort {α : Type} (enc : α → List Value) (key : α → Int) (w : World) (B : Nat) (T : TypeId) (k : Nat) (v : Value) (l : List α) (e : Ending) (w' : World) : Prop :=
  e = .returned (.tuple #[]) ∧ ∃ l', l.Perm l' ∧ l'.Pairwise (fun a b => key a ≤ key b) ∧ w'.ownsRow B T k v l.length (l'.flatMap enc) ∧ Below B w w' ∧ ∀ q, q < w.heap.size → v.ownBlock ≠ some q → w'.heap[q]? = w.heap[q]?
theorem says_sort {α : Type} [Inhabited α] (enc : α → List Value) (key : α → Int) {k : Nat} (hk : ∀ x, (enc x).length = k) {w w' : World} {B g c : Nat} {T : TypeId} {l : List α} {e : Ending}
    (h : w.ownsRow B T k (.slice (some ⟨g, 0, none⟩) l.length c) l.length (l.flatMap enc))
    (hs : e = .returned (.tuple #[]) ∧ ∃ d' n os, Sort.PermIn 0 l.toArray.size l.toArray d' ∧ Sort.SortedIn (ltOf fun x y => cmpI (key x) (key y)) 0 l.toArray.size d' ∧ w' = sortWorldK enc k w g 0 n d' os) :
    SaysSort enc key w B T k (.slice (some ⟨g, 0, none⟩) l.length c) l e w' := by
  obtain ⟨he, d', n, os, hp, ho, rfl⟩ := hs
  obtain ⟨hsz, hpm⟩ := perm_lists hp
  rw [← hsz] at ho
  have hpw := sorted_pair ho
  have h' : w.ownsRow B T k (.slice (some ⟨g, 0, none⟩) l.toArray.size c) l.toArray.size (l.toArray.toList.flatMap enc) := by simpa using h
  obtain ⟨a, b, f⟩ := sorted_own enc k hk hsz h' n os
  refine ⟨he, d'.toList, by simpa using hpm, ?_, by simpa using a, b, fun q hq hne => f q hq (fun e => hne (by rw [e]; rfl))⟩
  refine hpw.imp fun {x y} hxy => ?_
  rw [lt_key] at hxy
  have := of_decide_eq_false hxy
  omega
theorem clsC_len (x : Cls) : (clsC x).length = 8 := rfl
theorem fltC_len (x : Flt) : (fltC x).length = 5 := rfl
theorem clsC_cell (x : Cls) : ∀ v ∈ clsC x, v.oneCell' = true := fun v hv => by
  simp only [clsC, List.mem_cons, List.not_mem_nil, or_false] at hv
  rcases hv with rfl | rfl | rfl | rfl | rfl | rfl | rfl | rfl <;> rfl
theorem fltC_cell (x : Flt) : ∀ v ∈ fltC x, v.oneCell' = true := fun v hv => by
  simp only [fltC, List.mem_cons, List.not_mem_nil, or_false] at hv
  rcases hv with rfl | rfl | rfl | rfl | rfl <;> rfl
set_option maxHeartbeats 1600000 in
theorem order1_any (x y : Cls) (w : World) : Calls Tryz.prog 82 #[clsV x, clsV y] w fun e w' => e = .returned (.int .i64 (cmpI x.i y.i)) ∧ ∃ q os', w' = Sort.grow (w.drewN q) os' := by
  obtain ⟨xi, xp, xr, xe, xb, xu, xo, xl⟩ := x
  obtain ⟨yi, yp, yr, ye, yb, yu, yo, yl⟩ := y
  have HC := Lib.hid (fun w => cmpInt_any xi yi w)
  simp only
  generalize cmpI xi yi = r at HC ⊢
  unfold clsV
  simp only
  go_enter Tryz.func82, Tryz.ntmps82
  go_wp2_with (go_at_call 83; refine (HC.out _).mono ?_; rintro e w' ⟨rfl, rfl⟩)
  go_ret
  exact ⟨rfl, 0, _, by rw [Sort.alloc_eq_grow, Sort.alloc_eq_grow, Sort.grow_grow]; rfl⟩
set_option maxHeartbeats 1600000 in
theorem order2_any (x y : Flt) (w : World) : Calls Tryz.prog 85 #[fltV x, fltV y] w fun e w' => e = .returned (.int .i64 (cmpI x.o y.o)) ∧ ∃ q os', w' = Sort.grow (w.drewN q) os' := by
  obtain ⟨xi, xp, xr, xe, xb⟩ := x
  obtain ⟨yi, yp, yr, ye, yb⟩ := y
  have HC := Lib.hid (fun w => cmpInt_any xi yi w)
  simp only
  generalize cmpI xi yi = r at HC ⊢
  unfold fltV
  simp only
  go_enter Tryz.func85, Tryz.ntmps85
  go_wp2_with (go_at_call 83; refine (HC.out _).mono ?_; rintro e w' ⟨rfl, rfl⟩)
  go_ret
  exact ⟨rfl, 0, _, by rw [Sort.alloc_eq_grow, Sort.alloc_eq_grow, Sort.grow_grow]; rfl⟩
theorem sortC_any (v : Value) (B : Nat) (cs : List Cls) (w : World) (h : Hid (w.ownsRow B 63 8 v cs.length (clsCs cs))) (hn : cs.length ≤ 1048576) :
    Calls Tryz.prog 81 #[v, .func (.func 82) #[] #[]] w (SaysSort clsC Cls.i w B 63 8 v cs) := by
  rcases h.out.2 with ⟨rfl, hz⟩ | ⟨g, cap, cur, rfl, _⟩
  · obtain rfl : cs = [] := List.eq_nil_of_length_eq_zero hz
    have hcon := AnyF.slices_SortFunc_none Tryz.sortC none 0 (.func (.func 82) #[] #[]) w
    change Calls Tryz.prog 81 _ _ _ at hcon
    refine hcon.mono ?_
    rintro e w' ⟨rfl, rfl⟩
    exact ⟨rfl, [], List.Perm.refl _, List.Pairwise.nil, h.out, Below.refl _ _, fun _ _ _ => rfl⟩
  · have eg : ∀ args w, (callFunc 82 args).run Tryz.prog w = .ok (.enter 82 args) w := enters_of Tryz.func82 (by kernel_rfl) rfl
    have hh := own_holds clsC 8 clsC_len (d := cs.toArray) (B := B) (T := 63) (g := g) (c := cap) (w := w) (by simpa [clsCs] using h.out)
    have hl := (World.ownsRow.lt h.out g rfl).2
    have hcon := AnyQ.slices_SortFunc Tryz.sortC 8 Tryz.isAgg63 Tryz.sizeOf63 clsC clsC_len clsC_cell (fun x y => cmpI x.i y.i) (swo_key Cls.i) 82 #[] g 0 cap cs.toArray w eg (fun _ _ _ _ x y => order1_any x y _) hh hl (by simp; omega)
    change Calls Tryz.prog 81 _ _ _ at hcon
    exact hcon.mono fun e w' hs => says_sort clsC Cls.i clsC_len h.out hs
theorem sortF_any (v : Value) (B : Nat) (fs : List Flt) (w : World) (h : Hid (w.ownsRow B 113 5 v fs.length (fltCs fs))) (hn : fs.length ≤ 1048576) :
    Calls Tryz.prog 84 #[v, .func (.func 85) #[] #[]] w (SaysSort fltC Flt.o w B 113 5 v fs) := by
  rcases h.out.2 with ⟨rfl, hz⟩ | ⟨g, cap, cur, rfl, _⟩
  · obtain rfl : fs = [] := List.eq_nil_of_length_eq_zero hz
    have hcon := AnyF.slices_SortFunc_none Tryz.sortF none 0 (.func (.func 85) #[] #[]) w
    change Calls Tryz.prog 84 _ _ _ at hcon
    refine hcon.mono ?_
    rintro e w' ⟨rfl, rfl⟩
    exact ⟨rfl, [], List.Perm.refl _, List.Pairwise.nil, h.out, Below.refl _ _, fun _ _ _ => rfl⟩
  · have eg : ∀ args w, (callFunc 85 args).run Tryz.prog w = .ok (.enter 85 args) w := enters_of Tryz.func85 (by kernel_rfl) rfl
    have hh := own_holds fltC 5 fltC_len (d := fs.toArray) (B := B) (T := 113) (g := g) (c := cap) (w := w) (by simpa [fltCs] using h.out)
    have hl := (World.ownsRow.lt h.out g rfl).2
    have hcon := AnyQ.slices_SortFunc Tryz.sortF 5 Tryz.isAgg113 Tryz.sizeOf113 fltC fltC_len fltC_cell (fun x y => cmpI x.o y.o) (swo_key Flt.o) 85 #[] g 0 cap fs.toArray w eg (fun _ _ _ _ x y => order2_any x y _) hh hl (by simp; omega)
    change Calls Tryz.prog 84 _ _ _ at hcon
    exact hcon.mono fun e w' hs => says_sort fltC Flt.o fltC_len h.out hs
end Go.Proofs.YtdmcgjohpnojkaaGreatDoor
namespace Go.Proofs.YtdmcgjohpnojkaaGreatDoor
open Go.RowKit
set_option linter.unusedVariables false
set_option linter.unusedSimpArgs false

set_option maxHeartbeats 6400000 in
theorem implOrderConfig_any (v : Value) (c : Cfg) (B : Nat) (w : World) (HK : Hid (Kwt w)) (HV : Hid (OwnCfg w B v c)) (HM : Hid (CfgM c)) :
    Calls Tryz.prog 32 #[v] w (SaysCB w (resOrderConfig1 c) (resOrderConfig2 c)) := by
  have HCO := Lib.hid (fun w' (b : Below w.heap.size w w') => copyOf_all v c B w' (Lib.hid (HV.out.on b)) HM)
  obtain ⟨vc, vf, rfl, oc, of, od⟩ := HV.out
  obtain ⟨ac, cc, rfl, _⟩ := own_in oc
  obtain ⟨af, cf, rfl, _⟩ := own_in of
  clear HV oc of od
  obtain ⟨s, cs, fs, d⟩ := c
  simp only at HCO
  have AB := Lib.hid (or_box (Below.refl _ ((w.alloc (.cells #[.string s, .slice ac cs.length cc, .slice af fs.length cf, .int .i64 d] 54)).alloc (.cells #[.string ⟨#[]⟩, .slice none 0 0, .slice none 0 0, .int .i64 0] 54))))
  have no : ∀ (D : Bool), (24 < cs.length ∨ 16 < fs.length) → (decide ((24 : Int) < (cs.length : Int)) = D) → Calls Tryz.prog 32 #[.agg #[.string s, .slice ac cs.length cc, .slice af fs.length cf, .int .i64 d]] w (SaysCB w cfg0 false) := by
    intro D h hD
    cases D
    · have h16 : 16 < fs.length := by have := of_decide_eq_false hD; omega
      have d2 : decide ((16 : Int) < (fs.length : Int)) = true := decide_eq_true (by omega)
      go_enter Tryz.func32, Tryz.ntmps32
      go_wp2_with fail
      exact bodyPost_ret (v := .tuple #[zV, .bool false]) (by simp [results, Tryz.results32, go_sem, zV]) rfl ⟨_, rfl, own_zV _ _, AB.out.2.2⟩
    · go_enter Tryz.func32, Tryz.ntmps32
      go_wp2_with fail
      exact bodyPost_ret (v := .tuple #[zV, .bool false]) (by simp [results, Tryz.results32, go_sem, zV]) rfl ⟨_, rfl, own_zV _ _, AB.out.2.2⟩
  by_cases hn : 24 < cs.length ∨ 16 < fs.length
  · obtain ⟨x1, x2⟩ := or_no (c := (⟨s, cs, fs, d⟩ : Cfg)) hn
    rw [x1, x2]
    exact no _ hn rfl
  clear no
  have h1 : cs.length ≤ 24 := by omega
  have h2 : fs.length ≤ 16 := by omega
  have d1 : decide ((24 : Int) < (cs.length : Int)) = false := decide_eq_false (by omega)
  have d2 : decide ((16 : Int) < (fs.length : Int)) = false := decide_eq_false (by omega)
  obtain ⟨x1, x2⟩ := or_yes (c := (⟨s, cs, fs, d⟩ : Cfg)) h1 h2
  rw [x1, x2]
  clear x1 x2 hn
  have HMo := HM.out
  have HSM := Lib.hid (fun cs' fs' (hc : cs.Perm cs') (hf : fs.Perm fs') => (show CfgM ⟨s, cs', fs', d⟩ from ⟨HMo.1, by show cs'.length ≤ _; rw [← hc.length_eq]; exact HMo.2.1, by show fs'.length ≤ _; rw [← hf.length_eq]; exact HMo.2.2⟩))
  have HOS := Lib.hid (fun cs' fs' (hc : cs.Perm cs') (hf : fs.Perm fs') hc' hf' => order_same s d hc hf hc' hf')
  clear HMo
  have HEQ := Lib.hid (show goodC (ordG ⟨s, cs, fs, d⟩) = goodC ⟨s, ordC cs, ordF fs, d⟩ from rfl)
  obtain ⟨b, hb⟩ : ∃ b, goodC (ordG (⟨s, cs, fs, d⟩ : Cfg)) = b := ⟨_, rfl⟩
  rw [hb]
  obtain ⟨rc, hrc⟩ : ∃ rc, (if b = true then ordG (⟨s, cs, fs, d⟩ : Cfg) else cfg0) = rc := ⟨_, rfl⟩
  rw [hrc]
  have HRC := Lib.hid hrc
  have HB := Lib.hid (HEQ.out.symm.trans hb)
  clear hrc hb HEQ
  have HSC := Lib.hid (fun v B w h => sortC_any v B cs w h HM.out.2.1)
  have HSF := Lib.hid (fun v B w h => sortF_any v B fs w h HM.out.2.2)
  have Z0 := Lib.hid AB.out.2.1
  have B0 := Lib.hid AB.out.2.2
  have hs0 : ((w.alloc (.cells #[.string s, .slice ac cs.length cc, .slice af fs.length cf, .int .i64 d] 54)).alloc (.cells #[.string ⟨#[]⟩, .slice none 0 0, .slice none 0 0, .int .i64 0] 54)).heap.size = w.heap.size + 2 := by simp
  clear AB
  go_enter Tryz.func32, Tryz.ntmps32
  go_wp2_with (go_at_call 80; refine (HCO.out _ B0.out).mono ?_; rintro e w2 ⟨v2, rfl, o2, b2⟩; rw [hs0] at o2; have O2 := Lib.hid o2; have Z2 := Lib.hid (Z0.out.on b2); have B2 := Lib.hid (B0.out.trans (b2.mono B0.out.size)); have hz2 : w.heap.size + 2 ≤ w2.heap.size := (by rw [← hs0]; exact b2.size); obtain ⟨vc2, vf2, rfl, oc2, of2, od2⟩ := o2; obtain ⟨a2, k2, rfl, _⟩ := own_in oc2; obtain ⟨f2, l2, rfl, _⟩ := own_in of2; have OC2 := Lib.hid oc2; have OF2 := Lib.hid of2; have OD2 := Lib.hid od2; clear oc2 of2 od2 b2; refine Hid.out ?_)
  refine Lib.hid ?_
  try simp only at OC2 OF2 OD2
  have XU : Hid (FourIs (w2.alloc (Obj.cells #[.string s, .slice a2 cs.length k2, .slice f2 fs.length l2, .int .i64 d] 54)) w2.heap.size (.string s) (.slice a2 cs.length k2) (.slice f2 fs.length l2) (.int .i64 d)) := Lib.hid (box_four (Below.refl _ _)).1
  have BU : Hid (Below w.heap.size w (w2.alloc (Obj.cells #[.string s, .slice a2 cs.length k2, .slice f2 fs.length l2, .int .i64 d] 54))) := Lib.hid (B2.out.alloc (by omega) _)
  have ZU : Hid (Zer (w2.alloc (Obj.cells #[.string s, .slice a2 cs.length k2, .slice f2 fs.length l2, .int .i64 d] 54)) (w.heap.size + 1)) := Lib.hid (Z2.out.on (one_new2 _ _))
  have CU := Lib.hid (own_low OC2.out (one_new2 w2 (Obj.cells #[.string s, .slice a2 cs.length k2, .slice f2 fs.length l2, .int .i64 d] 54)) (Nat.le_refl _))
  have FU := Lib.hid (own_low OF2.out (one_new2 w2 (Obj.cells #[.string s, .slice a2 cs.length k2, .slice f2 fs.length l2, .int .i64 d] 54)) (Nat.le_refl _))
  have hsU : (w2.alloc (Obj.cells #[.string s, .slice a2 cs.length k2, .slice f2 fs.length l2, .int .i64 d] 54)).heap.size = w2.heap.size + 1 := by simp
  have NC : Hid (∀ q, (q < w.heap.size + 2 ∨ w2.heap.size ≤ q) → (Value.slice a2 cs.length k2).ownBlock ≠ some q) := Lib.hid (fun q hq e => by have := World.ownsRow.lt OC2.out q e; omega)
  have NF : Hid (∀ q, (q < w.heap.size + 2 ∨ w2.heap.size ≤ q) → (Value.slice f2 fs.length l2).ownBlock ≠ some q) := Lib.hid (fun q hq e => by have := World.ownsRow.lt OF2.out q e; omega)
  have HSC1 := Lib.hid (HSC.out _ _ _ CU)
  obtain ⟨z0, z1, z2, z3, _⟩ := XU.out
  clear O2 HSC HCO Z0 B0 Z2
  go_wp2_with (go_at_call 81; refine HSC1.out.mono ?_; rintro e u1 ⟨rfl, cs', hp, hw, ho, hb, hsame⟩; have HP := Lib.hid hp; have HW := Lib.hid hw; have C1 := Lib.hid ho; have X1 := Lib.hid (XU.out.same (hsame w2.heap.size (by omega) (NC.out _ (Or.inr (Nat.le_refl _)))) hb.size); have Z1 := Lib.hid (ZU.out.same (hsame (w.heap.size + 1) (by omega) (NC.out _ (Or.inl (by omega)))) hb.size); have F1 := Lib.hid (own_heap FU.out (fun q hq => hsame q (World.ownsRow.lt FU.out q hq).2 (fun e => OD2.out q e hq))); have B1 := Lib.hid (BU.out.trans (hb.mono (by omega))); have hs1 := hb.size; clear hp hw ho hb hsame z0 z1 z2 z3; obtain ⟨z0, z1, z2, z3, _⟩ := X1.out; refine Hid.out ?_)
  refine Lib.hid ?_
  have HSF1 := Lib.hid (HSF.out _ _ _ F1)
  clear HSC1 XU ZU CU FU BU HSF
  go_wp2_with (go_at_call 84; refine HSF1.out.mono ?_; rintro e u2 ⟨rfl, fs', hp, hw, ho, hb, hsame⟩; have HQ := Lib.hid hp; have HV := Lib.hid hw; have F2 := Lib.hid ho; have X2 := Lib.hid (X1.out.same (hsame w2.heap.size (by omega) (NF.out _ (Or.inr (Nat.le_refl _)))) hb.size); have Z3 := Lib.hid (Z1.out.same (hsame (w.heap.size + 1) (by omega) (NF.out _ (Or.inl (by omega)))) hb.size); have C2 := Lib.hid (own_heap C1.out (fun q hq => hsame q (World.ownsRow.lt C1.out q hq).2 (fun e => OD2.out q hq e))); have B3 := Lib.hid (B1.out.trans (hb.mono (by omega))); have hs2 := hb.size; clear hp hw ho hb hsame z0 z1 z2 z3; obtain ⟨z0, z1, z2, z3, _⟩ := X2.out; refine Hid.out ?_)
  refine Lib.hid ?_
  clear HSF1 X1 Z1 F1 C1 B1 X2
  obtain ⟨g1, g2⟩ := HOS.out cs' fs' HP.out HQ.out HW.out HV.out
  have HMS := Lib.hid (HSM.out cs' fs' HP.out HQ.out)
  have OZ : Hid (OwnCfg u2 (w.heap.size + 2) (.agg #[.string s, .slice a2 cs.length k2, .slice f2 fs.length l2, .int .i64 d]) (⟨s, cs', fs', d⟩ : Cfg)) := Lib.hid ⟨_, _, rfl, by
    have q := C2.out
    rw [HP.out.length_eq] at q ⊢
    exact q, by
    have q := F2.out
    rw [HQ.out.length_eq] at q ⊢
    exact q, OD2.out⟩
  have HIX := Lib.hid (ifValid_any _ _ _ (Lib.hid (HK.out.below B3.out)) (Lib.hid OZ.out.cfg) HMS)
  rw [g1, HB.out] at HIX
  rw [HB.out] at g2
  clear g1 HOS HSM HMS HM HK C2 F2 HP HQ HW HV
  cases b
  · obtain rfl : cfg0 = rc := HRC.out
    unfold SaysIf at HIX
    simp only [Bool.false_eq_true, if_false] at HIX
    unfold zV at HIX
    clear g2
    go_wp2_with (go_at_call 86; refine HIX.out.mono ?_; rintro e wv ⟨rfl, bv⟩; have BV := Lib.hid bv; clear bv; refine Hid.out ?_)
    refine Lib.hid ?_
    clear z0 z1 z2 z3
    obtain ⟨⟨x0, x1, x2, x3, _⟩, x4⟩ := Z3.out.on BV.out
    have y0 := x4 0
    have y1 := x4 1
    have y2 := x4 2
    have y3 := x4 3
    clear x4
    go_wp2_with fail
    obtain ⟨r0, r1, r2, r3⟩ := read4 (Z3.out.on BV.out).four (.string ⟨#[]⟩) (.slice none 0 0) (.slice none 0 0) (.int .i64 0) _ rfl
    exact bodyPost_ret (v := .tuple #[zV, .bool false]) (by simp [results, Tryz.results32, go_sem, r0, r1, r2, r3, zV]) rfl ⟨_, rfl, own_zV _ _, set4 (B3.out.trans (BV.out.mono B3.out.size)) _ (by omega) _ _ _ _⟩
  · obtain ⟨e1, e2⟩ := g2 rfl
    have OW : Hid (OwnCfg u2 (w.heap.size + 2) (.agg #[.string s, .slice a2 cs.length k2, .slice f2 fs.length l2, .int .i64 d]) rc) := Lib.hid (by
      have q := OZ.out
      rw [e1, e2] at q
      rw [← HRC.out]
      exact q)
    clear e1 e2 g2 OZ HRC
    unfold SaysIf at HIX
    simp only [if_true] at HIX
    go_wp2_with (go_at_call 86; refine HIX.out.mono ?_; rintro e wv ⟨rfl, bv⟩; have BV := Lib.hid bv; clear bv; refine Hid.out ?_)
    refine Lib.hid ?_
    clear z0 z1 z2 z3
    obtain ⟨⟨x0, x1, x2, x3, _⟩, x4⟩ := Z3.out.on BV.out
    have y0 := x4 0
    have y1 := x4 1
    have y2 := x4 2
    have y3 := x4 3
    clear x4
    go_wp2_with fail
    obtain ⟨r0, r1, r2, r3⟩ := read4 (Z3.out.on BV.out).four (.string s) (.slice a2 cs.length k2) (.slice f2 fs.length l2) (.int .i64 d) _ rfl
    exact bodyPost_ret (v := .tuple #[(.agg #[.string s, .slice a2 cs.length k2, .slice f2 fs.length l2, .int .i64 d]), .bool true]) (by simp [results, Tryz.results32, go_sem, r0, r1, r2, r3]) rfl ⟨_, rfl, ((OW.out.on BV.out).set4 (by omega) _ _ _ _).base (by omega), set4 (B3.out.trans (BV.out.mono B3.out.size)) _ (by omega) _ _ _ _⟩
end Go.Proofs.YtdmcgjohpnojkaaGreatDoor
