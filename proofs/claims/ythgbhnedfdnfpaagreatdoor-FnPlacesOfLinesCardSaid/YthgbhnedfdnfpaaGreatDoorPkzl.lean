import Derived.Test.YthgbhnedfdnfpaaGreatDoorPkm
import Derived.Test.YthgbhnedfdnfpaaGreatDoorPkzg
import Derived.Test.YthgbhnedfdnfpaaGreatDoorPky
import Derived.Deep.RegionHeld3
import Derived.Test.YthgbhnedfdnfpaaGreatDoorPkzf
/- Canonical texts, the program's: the printer in its block; a line written (written by tools/gen_prv.py). -/
namespace Go.Proofs.YthgbhnedfdnfpaaGreatDoor
set_option maxRecDepth 100000
open Go.RowKit
set_option linter.unusedVariables false
set_option linter.unusedSimpArgs false

def spL (Sp : Nat → Nat × Nat) : List Value := (List.range 48).map (fun j => .int .i64 ((if j % 2 = 0 then (Sp (j / 2)).1 else (Sp (j / 2)).2 : Nat) : Int))
theorem spL_length (Sp : Nat → Nat × Nat) : (spL Sp).length = 48 := by simp [spL]
theorem spL_get (Sp : Nat → Nat × Nat) (j : Nat) (h : j < 48) : (spL Sp)[j]? = some (.int .i64 ((if j % 2 = 0 then (Sp (j / 2)).1 else (Sp (j / 2)).2 : Nat) : Int)) := by simp [spL, h]
theorem spL_even (Sp : Nat → Nat × Nat) (i : Nat) (h : i < 24) : (spL Sp)[i * 2]? = some (.int .i64 ((Sp i).1 : Int)) := by
  rw [spL_get _ _ (by omega), if_pos (by omega), show i * 2 / 2 = i by omega]
theorem spL_odd (Sp : Nat → Nat × Nat) (i : Nat) (h : i < 24) : (spL Sp)[i * 2 + 1]? = some (.int .i64 ((Sp i).2 : Int)) := by
  rw [spL_get _ _ (by omega), if_neg (by omega), show (i * 2 + 1) / 2 = i by omega]
def spSet (Sp : Nat → Nat × Nat) (i a b : Nat) : Nat → Nat × Nat := fun j => if j = i then (a, b) else Sp j
theorem spL_set (Sp : Nat → Nat × Nat) (i a b : Nat) (h : i < 24) : ((spL Sp).set (i * 2) (.int .i64 (a : Int))).set (i * 2 + 1) (.int .i64 (b : Int)) = spL (spSet Sp i a b) := by
  apply List.ext_getElem?
  intro j
  by_cases hj : j < 48
  · rw [spL_get _ _ hj]
    by_cases h1 : j = i * 2 + 1
    · subst h1
      rw [List.getElem?_set_self (by rw [List.length_set, spL_length]; exact hj), if_neg (by omega), show (i * 2 + 1) / 2 = i by omega]
      simp [spSet]
    · rw [List.getElem?_set_ne (by omega)]
      by_cases h2 : j = i * 2
      · subst h2
        rw [List.getElem?_set_self (by rw [spL_length]; exact hj), if_pos (by omega), show i * 2 / 2 = i by omega]
        simp [spSet]
      · rw [List.getElem?_set_ne (by omega), spL_get _ _ hj]
        have : j / 2 ≠ i := by omega
        simp [spSet, this]
  · rw [List.getElem?_eq_none (by rw [List.length_set, List.length_set, spL_length]; omega), List.getElem?_eq_none (by rw [spL_length]; omega)]
def pX (v0 v1 v2 v3 lv wv : Value) (Sp : Nat → Nat × Nat) : List Value := v0 :: v1 :: v2 :: v3 :: lv :: wv :: spL Sp
theorem pX_length (v0 v1 v2 v3 lv wv : Value) (Sp : Nat → Nat × Nat) : (pX v0 v1 v2 v3 lv wv Sp).length = 54 := by simp [pX, spL_length]
def PrV (w : World) (g : Nat) (v0 v1 v2 v3 lv wv : Value) (Sp : Nat → Nat × Nat) : Prop := w.heap[g]? = some (.cells (pX v0 v1 v2 v3 lv wv Sp).toArray 49 (0, 0))
theorem PrV.lt {w : World} {g : Nat} {v0 v1 v2 v3 lv wv : Value} {Sp : Nat → Nat × Nat} (h : PrV w g v0 v1 v2 v3 lv wv Sp) : g < w.heap.size := by
  rcases Nat.lt_or_ge g w.heap.size with q | q
  · exact q
  · unfold PrV at h
    rw [Array.getElem?_eq_none q] at h
    cases h
theorem PrV.cell {w : World} {g : Nat} {v0 v1 v2 v3 lv wv : Value} {Sp : Nat → Nat × Nat} (h : PrV w g v0 v1 v2 v3 lv wv Sp) (j : Nat) : w.cell? ⟨g, j, none⟩ = (pX v0 v1 v2 v3 lv wv Sp)[j]? := by
  rw [cell_of_row w g j _ _ (0, 0) h]; simp
theorem PrV.cells {w : World} {g : Nat} {v0 v1 v2 v3 lv wv : Value} {Sp : Nat → Nat × Nat} (h : PrV w g v0 v1 v2 v3 lv wv Sp) :
    w.cell? ⟨g, 0, none⟩ = some v0 ∧ w.cell? ⟨g, 1, none⟩ = some v1 ∧ w.cell? ⟨g, 2, none⟩ = some v2 ∧ w.cell? ⟨g, 3, none⟩ = some v3 ∧ w.cell? ⟨g, 4, none⟩ = some lv ∧ w.cell? ⟨g, 5, none⟩ = some wv ∧ (∀ o, w.frozen? ⟨g, o, none⟩ = false) :=
  ⟨by rw [h.cell]; rfl, by rw [h.cell]; rfl, by rw [h.cell]; rfl, by rw [h.cell]; rfl, by rw [h.cell]; rfl, by rw [h.cell]; rfl, fun o => frozen_of_row w g o _ _ h⟩
theorem PrV.span {w : World} {g : Nat} {v0 v1 v2 v3 lv wv : Value} {Sp : Nat → Nat × Nat} (h : PrV w g v0 v1 v2 v3 lv wv Sp) (i : Nat) (hi : i < 24) : w.cell? ⟨g, 6 + i * 2, none⟩ = some (.int .i64 ((Sp i).1 : Int)) ∧ w.cell? ⟨g, 6 + i * 2 + 1, none⟩ = some (.int .i64 ((Sp i).2 : Int)) := by
  refine ⟨?_, ?_⟩
  · rw [h.cell, show 6 + i * 2 = i * 2 + 6 by omega]
    exact spL_even Sp i hi
  · rw [h.cell, show 6 + i * 2 + 1 = (i * 2 + 1) + 6 by omega]
    exact spL_odd Sp i hi
theorem PrV.same {w w' : World} {g : Nat} {v0 v1 v2 v3 lv wv : Value} {Sp : Nat → Nat × Nat} (h : PrV w g v0 v1 v2 v3 lv wv Sp) (hb : w'.heap[g]? = w.heap[g]?) : PrV w' g v0 v1 v2 v3 lv wv Sp := hb.trans h
theorem PrV.setL {w : World} {g : Nat} {v0 v1 v2 v3 lv wv : Value} {Sp : Nat → Nat × Nat} (h : PrV w g v0 v1 v2 v3 lv wv Sp) (u : Value) : PrV (w.setCell ⟨g, 4, none⟩ u) g v0 v1 v2 v3 u wv Sp := by
  have := heap_setCell_same w g 4 _ _ u h
  unfold PrV
  rw [this]
  simp [pX]
theorem PrV.setW {w : World} {g : Nat} {v0 v1 v2 v3 lv wv : Value} {Sp : Nat → Nat × Nat} (h : PrV w g v0 v1 v2 v3 lv wv Sp) (u : Value) : PrV (w.setCell ⟨g, 5, none⟩ u) g v0 v1 v2 v3 lv u Sp := by
  have := heap_setCell_same w g 5 _ _ u h
  unfold PrV
  rw [this]
  simp [pX]
theorem spL_set_pX (v0 v1 v2 v3 lv wv : Value) (Sp : Nat → Nat × Nat) (i a b : Nat) (hi : i < 24) : ((pX v0 v1 v2 v3 lv wv Sp).set (6 + i * 2) (.int .i64 (a : Int))).set (6 + i * 2 + 1) (.int .i64 (b : Int)) = pX v0 v1 v2 v3 lv wv (spSet Sp i a b) := by
  unfold pX
  rw [← spL_set Sp i a b hi, show 6 + i * 2 = i * 2 + 6 by omega, show i * 2 + 6 + 1 = (i * 2 + 1) + 6 by omega]
  simp only [List.set_cons_succ]
theorem PrV.setS {w : World} {g : Nat} {v0 v1 v2 v3 lv wv : Value} {Sp : Nat → Nat × Nat} (h : PrV w g v0 v1 v2 v3 lv wv Sp) (i a b : Nat) (hi : i < 24) : PrV ((w.setCell ⟨g, 6 + i * 2, none⟩ (.int .i64 (a : Int))).setCell ⟨g, 6 + i * 2 + 1, none⟩ (.int .i64 (b : Int))) g v0 v1 v2 v3 lv wv (spSet Sp i a b) := by
  have h1 := heap_setCell_same w g (6 + i * 2) _ _ (.int .i64 (a : Int)) h
  have h2 := heap_setCell_same _ g (6 + i * 2 + 1) _ _ (.int .i64 (b : Int)) h1
  unfold PrV
  rw [h2, ← spL_set_pX v0 v1 v2 v3 lv wv Sp i a b hi]
  simp
def PrS (w : World) (g : Nat) (v0 v1 v2 v3 lv wv : Value) (L : List ByteArray) (W : List Nat) (Sp : Nat → Nat × Nat) : Prop :=
  PrV w g v0 v1 v2 v3 lv wv Sp ∧ w.ownsRow (g + 1) 9 1 lv L.length (sv L) ∧ w.ownsRow (g + 1) 3 1 wv W.length (nv W) ∧ ∀ k, lv.ownBlock = some k → wv.ownBlock ≠ some k
theorem PrS.below {w w' : World} {g : Nat} {v0 v1 v2 v3 lv wv : Value} {L : List ByteArray} {W : List Nat} {Sp : Nat → Nat × Nat} (h : PrS w g v0 v1 v2 v3 lv wv L W Sp) (b : Below w.heap.size w w') : PrS w' g v0 v1 v2 v3 lv wv L W Sp :=
  ⟨h.1.same (b.block g h.1.lt), own_low h.2.1 b (Nat.le_refl _), own_low h.2.2.1 b (Nat.le_refl _), h.2.2.2⟩
theorem PrS.lt {w : World} {g : Nat} {v0 v1 v2 v3 lv wv : Value} {L : List ByteArray} {W : List Nat} {Sp : Nat → Nat × Nat} (h : PrS w g v0 v1 v2 v3 lv wv L W Sp) : g < w.heap.size := h.1.lt
def KeepB (g : Nat) (row : Option Nat) (w w' : World) : Prop := Below g w w' ∧ ∀ k, g < k → k < w.heap.size → row ≠ some k → w'.heap[k]? = w.heap[k]?
theorem sv_append (a b : List ByteArray) : sv (a ++ b) = sv a ++ sv b := by simp [sv]
theorem own_hp {w w' : World} {B n z : Nat} {T : TypeId} {v : Value} {xs : List Value} (h : w.ownsRow B T z v n xs) (ho : ∀ k, v.ownBlock = some k → w'.heap[k]? = w.heap[k]?) : w'.ownsRow B T z v n xs := own_heap h ho
theorem PrS.snocL {w w1 w2 : World} {g : Nat} {v0 v1 v2 v3 lv wv lv' : Value} {L : List ByteArray} {W : List Nat} {Sp : Nat → Nat × Nat} {x : ByteArray} (h : PrS w g v0 v1 v2 v3 lv wv L W Sp) (b : Below w.heap.size w w1)
    (ho : w2.ownsRow (g + 1) 9 1 lv' (L.length + 1) (sv L ++ [.string x])) (hg : w1.grownBy w2 lv.ownBlock) (hat : ∀ k, lv'.ownBlock = some k → lv.ownBlock = some k ∨ w1.heap.size ≤ k) :
    PrS (w2.setCell ⟨g, 4, none⟩ lv') g v0 v1 v2 v3 lv' wv (L ++ [x]) W Sp ∧ KeepB g lv.ownBlock w (w2.setCell ⟨g, 4, none⟩ lv') ∧ w2.cell? ⟨g, 4, none⟩ = some lv ∧ w2.frozen? ⟨g, 4, none⟩ = false := by
  have h1 := h.below b
  have hgl := h1.lt
  have hlb := fun k hk => World.ownsRow.lt h1.2.1 k hk
  have hwb := fun k hk => World.ownsRow.lt h1.2.2.1 k hk
  have hlo := fun k hk => World.ownsRow.lt h.2.1 k hk
  have hgb : w2.heap[g]? = w1.heap[g]? := hg.block g hgl (fun e => by have := (hlb g e.symm).1; omega)
  have hv2 := h1.1.same hgb
  have hset : ∀ k, k ≠ g → (w2.setCell ⟨g, 4, none⟩ lv').heap[k]? = w2.heap[k]? := fun k hk => heap_setCell_other w2 ⟨g, 4, none⟩ k lv' (fun e => hk e)
  refine ⟨⟨hv2.setL lv', ?_, ?_, fun k hk hw => ?_⟩, ⟨?_, ?_⟩, hv2.cells.2.2.2.2.1, hv2.cells.2.2.2.2.2.2 4⟩
  · rw [List.length_append, sv_append]
    exact own_hp ho (fun k hk => hset k (fun e => by have := (World.ownsRow.lt ho k hk).1; omega))
  · refine own_hp h1.2.2.1 (fun k hk => ?_)
    rw [hset k (fun e => by have := (hwb k hk).1; omega)]
    exact hg.block k (hwb k hk).2 (fun e => h.2.2.2 k e.symm hk)
  · rcases hat k hk with e | e
    · exact h.2.2.2 k e hw
    · have := (hwb k hw).2; omega
  · exact ((b.mono (Nat.le_of_lt h.lt)).grown hg (Nat.le_of_lt hgl) (fun k hk => by have := (hlb k hk).1; omega)).setCell (Nat.le_refl g) _
  · intro k hgk hks hne
    rw [hset k (by omega), hg.block k (Nat.lt_of_lt_of_le hks b.size) (fun e => hne e.symm), b.block k hks]
theorem PrS.snocW {w w1 w2 : World} {g : Nat} {v0 v1 v2 v3 lv wv wv' : Value} {L : List ByteArray} {W : List Nat} {Sp : Nat → Nat × Nat} {x : Nat} (h : PrS w g v0 v1 v2 v3 lv wv L W Sp) (b : Below w.heap.size w w1)
    (ho : w2.ownsRow (g + 1) 3 1 wv' (W.length + 1) (nv W ++ [.int .i64 (x : Int)])) (hg : w1.grownBy w2 wv.ownBlock) (hat : ∀ k, wv'.ownBlock = some k → wv.ownBlock = some k ∨ w1.heap.size ≤ k) :
    PrS (w2.setCell ⟨g, 5, none⟩ wv') g v0 v1 v2 v3 lv wv' L (W ++ [x]) Sp ∧ KeepB g wv.ownBlock w (w2.setCell ⟨g, 5, none⟩ wv') ∧ w2.cell? ⟨g, 5, none⟩ = some wv ∧ w2.frozen? ⟨g, 5, none⟩ = false := by
  have h1 := h.below b
  have hgl := h1.lt
  have hlb := fun k hk => World.ownsRow.lt h1.2.2.1 k hk
  have hwb := fun k hk => World.ownsRow.lt h1.2.1 k hk
  have hgb : w2.heap[g]? = w1.heap[g]? := hg.block g hgl (fun e => by have := (hlb g e.symm).1; omega)
  have hv2 := h1.1.same hgb
  have hset : ∀ k, k ≠ g → (w2.setCell ⟨g, 5, none⟩ wv').heap[k]? = w2.heap[k]? := fun k hk => heap_setCell_other w2 ⟨g, 5, none⟩ k wv' (fun e => hk e)
  refine ⟨⟨hv2.setW wv', ?_, ?_, fun k hk hw => ?_⟩, ⟨?_, ?_⟩, hv2.cells.2.2.2.2.2.1, hv2.cells.2.2.2.2.2.2 5⟩
  · refine own_hp h1.2.1 (fun k hk => ?_)
    rw [hset k (fun e => by have := (hwb k hk).1; omega)]
    exact hg.block k (hwb k hk).2 (fun e => h.2.2.2 k hk e.symm)
  · rw [List.length_append, nv_snoc]
    exact own_hp ho (fun k hk => hset k (fun e => by have := (World.ownsRow.lt ho k hk).1; omega))
  · rcases hat k hw with e | e
    · exact h.2.2.2 k hk e
    · have := (hwb k hk).2; omega
  · exact ((b.mono (Nat.le_of_lt h.lt)).grown hg (Nat.le_of_lt hgl) (fun k hk => by have := (hlb k hk).1; omega)).setCell (Nat.le_refl g) _
  · intro k hgk hks hne
    rw [hset k (by omega), hg.block k (Nat.lt_of_lt_of_le hks b.size) (fun e => hne e.symm), b.block k hks]
def SaysL (w : World) (g : Nat) (v0 v1 v2 v3 lv wv : Value) (L : List ByteArray) (W : List Nat) (Sp : Nat → Nat × Nat) (e : Ending) (w' : World) : Prop :=
  e = .returned (.tuple #[]) ∧ ∃ lv', PrS w' g v0 v1 v2 v3 lv' wv L W Sp ∧ KeepB g lv.ownBlock w w'
theorem one_cell (w : World) (v : Value) (t : TypeId) : ∀ j u, [v][j]? = some u → (w.alloc (.cells #[v] t)).cell? ((⟨w.heap.size, 0, none⟩ : Addr).add j) = some u := one_int w v t
set_option maxHeartbeats 6400000 in
theorem writeLine_any (g l : Nat) (t : ByteArray) (v0 v1 v2 v3 lv wv : Value) (L : List ByteArray) (W : List Nat) (Sp : Nat → Nat × Nat) (w : World) (HP : Hid (PrS w g v0 v1 v2 v3 lv wv L W Sp)) (hl : l ≤ 100) (hL : L.length ≤ 3000000) (ht : t.size ≤ 10000000) :
    Calls Tryz.prog 63 #[.pointer (some ⟨g, 0, none⟩), .int .i64 (l : Int), .string t] w (SaysL w g v0 v1 v2 v3 lv wv (L ++ [indS l ++ t ++ ⟨#[10]⟩]) W Sp) := by
  obtain ⟨i0, hi, hz0, hz1, hz2⟩ := info_parts infoStr
  have HRP : Hid (∀ w, Calls Tryz.prog 92 #[.string ⟨#[32, 32]⟩, .int .i64 (l : Int)] w (SaysV w (.string (indS l)))) := Lib.hid (fun w => Tryz.strings_Repeat ⟨#[32, 32]⟩ l w (by omega) (by rw [show (⟨#[32, 32]⟩ : ByteArray).size = 2 from rfl]; omega))
  have his := indS_size l
  have hil : (indS l).size ≤ 200 := by omega
  generalize indS l = ii at HRP hil ⊢
  have k1 : ¬ (9223372036854775807 < ii.size + t.size) := by omega
  have k2 : ¬ (9223372036854775807 < ii.size + t.size + 1) := by omega
  obtain ⟨x, hx⟩ : ∃ x, ii ++ t ++ ⟨#[10]⟩ = x := ⟨_, rfl⟩
  have HX := Lib.hid hx
  rw [hx]
  have hgl := HP.out.lt
  have HD := Lib.hid (HP.out.below (below_drewN (Below.refl w.heap.size w) 1))
  have hbd : Below w.heap.size w w.drew := below_drewN (Below.refl w.heap.size w) 1
  have HBD := Lib.hid hbd
  clear his hx hbd
  go_enter Tryz.func63, Tryz.ntmps63
  go_wp2_with fail
  refine AnyL.begin (S := fun _ => True) (T := fun w' => w'.cell? ⟨g, 4, none⟩ = some lv) (b := 14) (by kernel_rfl) ?_
  have HDd : Hid (PrS w.drew g v0 v1 v2 v3 lv wv L W Sp) := HD
  obtain ⟨u0, hu0⟩ : ∃ u0, w.drew = u0 := ⟨_, rfl⟩
  rw [show World.drewN w 1 = u0 from hu0] at HD
  rw [hu0] at HBD HDd ⊢
  have hg0 : g < u0.heap.size := HDd.out.lt
  have hB := And.intro trivial HDd.out.1.cells.2.2.2.2.1
  clear hu0
  refine AnyL.tS (i := 0) (d := 6) (v := ?_) rfl rfl (by kernel_rfl) (by kernel_rfl) (by kernel_rfl) (by decide) (fun _ _ _ h => h) (by rfl) ?_ (by assumption) ?_
  rotate_left
  · intro w' hSw
    (try dsimp only at hSw)
    go_simp
    try with_reducible rfl
  try simp only [Act.put, List.setIfInBounds_toArray, List.set_cons_zero, List.set_cons_succ]
  refine AnyL.tS (i := 1) (d := 7) (v := ?_) rfl rfl (by kernel_rfl) (by kernel_rfl) (by kernel_rfl) (by decide) (fun _ _ _ h => h) (by rfl) ?_ (by assumption) ?_
  rotate_left
  · intro w' hSw
    (try dsimp only at hSw)
    go_simp
    try with_reducible rfl
  try simp only [Act.put, List.setIfInBounds_toArray, List.set_cons_zero, List.set_cons_succ]
  refine AnyL.tS (i := 2) (d := 8) (v := ?_) rfl rfl (by kernel_rfl) (by kernel_rfl) (by kernel_rfl) (by decide) (fun _ _ _ h => h) (by rfl) ?_ (by assumption) ?_
  rotate_left
  · intro w' hSw
    (try dsimp only at hSw)
    go_simp
    try with_reducible rfl
  try simp only [Act.put, List.setIfInBounds_toArray, List.set_cons_zero, List.set_cons_succ]
  refine AnyL.tS (i := 3) (d := 9) (v := ?_) rfl rfl (by kernel_rfl) (by kernel_rfl) (by kernel_rfl) (by decide) (fun _ _ _ h => h) (by rfl) ?_ (by assumption) ?_
  rotate_left
  · intro w' hSw
    (try dsimp only at hSw)
    go_simp
    try with_reducible rfl
  try simp only [Act.put, List.setIfInBounds_toArray, List.set_cons_zero, List.set_cons_succ]
  refine AnyL.tT (i := 4) (d := 10) (v := ?_) rfl rfl (by kernel_rfl) (by kernel_rfl) (by kernel_rfl) (by decide) (by kernel_rfl) (by kernel_rfl) (fun _ _ _ h => h) (by rfl) ?_ (by assumption) ?_
  rotate_left
  · intro w' hSw
    (try dsimp only at hSw)
    go_simp
    try with_reducible rfl
  try simp only [Act.put, List.setIfInBounds_toArray, List.set_cons_zero, List.set_cons_succ]
  refine AnyL.tS (i := 5) (d := 11) (v := ?_) rfl rfl (by kernel_rfl) (by kernel_rfl) (by kernel_rfl) (by decide) (fun _ _ _ h => h) (by rfl) ?_ (by assumption) ?_
  rotate_left
  · intro w' hSw
    (try dsimp only at hSw)
    go_simp
    try with_reducible rfl
  try simp only [Act.put, List.setIfInBounds_toArray, List.set_cons_zero, List.set_cons_succ]
  refine AnyL.tS (i := 7) (d := 13) (v := ?_) rfl rfl (by kernel_rfl) (by kernel_rfl) (by kernel_rfl) (by decide) (fun _ _ _ h => h) (by rfl) ?_ (by assumption) ?_
  rotate_left
  · intro w' hSw
    (try dsimp only at hSw)
    go_simp
    try with_reducible rfl
  try simp only [Act.put, List.setIfInBounds_toArray, List.set_cons_zero, List.set_cons_succ]
  refine AnyL.ready (rs := [6]) (by kernel_rfl) (by simp) ?_
  refine (AllL.consN rfl (fun K' hK => ?_) AllL.nil)
  go_simp
  go_at_call 92
  refine (HRP.out _).mono ?_
  rintro e u1 ⟨rfl, b⟩
  have B1 := Lib.hid b
  have P1 := Lib.hid (HDd.out.below b)
  refine hK.out _ _ ⟨trivial, P1.out.1.cells.2.2.2.2.1⟩ (fun hB => ?_)
  clear hK K' b
  try simp only [Act.put, List.setIfInBounds_toArray, List.set_cons_zero, List.set_cons_succ]
  refine AnyL.tS (i := 8) (d := 14) (v := ?_) rfl rfl (by kernel_rfl) (by kernel_rfl) (by kernel_rfl) (by decide) (fun _ _ _ h => h) (by rfl) ?_ (by assumption) ?_
  rotate_left
  · intro w' hSw
    (try dsimp only at hSw)
    go_simp
    try with_reducible rfl
  try simp only [Act.put, List.setIfInBounds_toArray, List.set_cons_zero, List.set_cons_succ]
  refine AnyL.tS (i := 9) (d := 15) (v := ?_) rfl rfl (by kernel_rfl) (by kernel_rfl) (by kernel_rfl) (by decide) (fun _ _ _ h => h) (by rfl) ?_ (by assumption) ?_
  rotate_left
  · intro w' hSw
    (try dsimp only at hSw)
    go_simp
    try with_reducible rfl
  try simp only [Act.put, List.setIfInBounds_toArray, List.set_cons_zero, List.set_cons_succ]
  refine AnyL.ready (rs := [10]) (by kernel_rfl) (by simp) ?_
  refine (AllL.consN rfl (fun K' hK => ?_) AllL.nil)
  go_simp
  rw [HX.out]
  have P2 := Lib.hid (P1.out.below (one_new2 u1 (.cells #[.string x] 9)))
  have B2 := Lib.hid (HBD.out.trans ((B1.out.trans ((one_new2 u1 (.cells #[.string x] 9)).mono B1.out.size)).mono HBD.out.size))
  refine hK.out _ _ ⟨trivial, P2.out.1.cells.2.2.2.2.1⟩ (fun hB => ?_)
  clear hK K'
  try simp only [Act.put, List.setIfInBounds_toArray, List.set_cons_zero, List.set_cons_succ]
  refine AnyL.ready (rs := [11]) (by kernel_rfl) (by simp) ?_
  refine (AllL.consN rfl (fun K' hK => ?_) AllL.nil)
  refine step_append_at _ rfl (.tmp 10) (.tmp 16) 44 rfl (g + 1) 9 i0 (.string ⟨#[]⟩) 1 16 Tryz.underlying44 hi hz0 hz1 hz2 rfl (by decide) lv L.length (sv L) (by rfl) P2.out.2.1 ⟨u1.heap.size, 0, none⟩ 1 1 [.string x] (by rfl) rfl (one_cell u1 (.string x) 9) (by intro u hu; simp at hu; subst hu; rfl) (by unfold maxLen; omega) (by omega) (by have := P2.out.lt; omega) ?_
  intro lv' u3 hown hgrow hat
  obtain ⟨al, cl, rfl, _⟩ := own_in hown
  obtain ⟨q1, q2, q3, q4⟩ := PrS.snocL HP.out B2.out hown hgrow hat
  have Q1 := Lib.hid q1
  have Q2 := Lib.hid q2
  refine hK.out _ _ ⟨trivial, q3⟩ (fun hB => ?_)
  clear hK K' hown hgrow hat q1 q2
  try simp only [Act.put, List.setIfInBounds_toArray, List.set_cons_zero, List.set_cons_succ]
  refine AnyL.tS (i := 12) (d := 18) (v := ?_) rfl rfl (by kernel_rfl) (by kernel_rfl) (by kernel_rfl) (by decide) (fun _ _ _ h => h) (by rfl) ?_ (by assumption) ?_
  rotate_left
  · intro w' hSw
    (try dsimp only at hSw)
    go_simp
    try with_reducible rfl
  try simp only [Act.put, List.setIfInBounds_toArray, List.set_cons_zero, List.set_cons_succ]
  refine AnyL.tS (i := 13) (d := 19) (v := ?_) rfl rfl (by kernel_rfl) (by kernel_rfl) (by kernel_rfl) (by decide) (fun _ _ _ h => h) (by rfl) ?_ (by assumption) ?_
  rotate_left
  · intro w' hSw
    (try dsimp only at hSw)
    go_simp
    try with_reducible rfl
  try simp only [Act.put, List.setIfInBounds_toArray, List.set_cons_zero, List.set_cons_succ]
  refine AnyL.ready (rs := [14]) (by kernel_rfl) (by simp) ?_
  refine (AllL.consB rfl (by kernel_rfl) (fun K' hK => ?_) AllL.nil)
  go_simp
  refine hK.out _ _ trivial ?_
  clear hK K'
  try simp only [Act.put, List.setIfInBounds_toArray, List.set_cons_zero, List.set_cons_succ]
  refine AnyL.done (by kernel_rfl) ?_ _
  go_wp2_with fail
  exact bodyPost_ret (v := .tuple #[]) (by simp [results, Tryz.results63, go_sem]) rfl ⟨rfl, _, Q1.out, Q2.out⟩
end Go.Proofs.YthgbhnedfdnfpaaGreatDoor

/- Canonical texts, the program's: the children of a class; the text of all lines (written by tools/gen_prw.py). -/
namespace Go.Proofs.YthgbhnedfdnfpaaGreatDoor
set_option maxRecDepth 100000
open Go.RowKit
set_option linter.unusedVariables false
set_option linter.unusedSimpArgs false

def Env (g : Nat) (gb : Nat) (cs : List Cls) (U : World → Prop) (w : World) : Prop := ∀ w', Below g w w' → AtC w' gb (clsCs cs) ∧ U w'
theorem Env.on {g gb : Nat} {cs : List Cls} {U : World → Prop} {w w1 : World} (h : Env g gb cs U w) (b : Below g w w1) : Env g gb cs U w1 := fun w' b' => h w' (b.trans b')
theorem Env.now {g gb : Nat} {cs : List Cls} {U : World → Prop} {w : World} (h : Env g gb cs U w) : AtC w gb (clsCs cs) := (h w (Below.refl _ _)).1
theorem Env.tab {g gb : Nat} {cs : List Cls} {U : World → Prop} {w : World} (h : Env g gb cs U w) : U w := (h w (Below.refl _ _)).2
def SaysPr (w : World) (g : Nat) (v0 v1 v2 v3 : Value) (I : List ByteArray → List Nat → (Nat → Nat × Nat) → Prop) (e : Ending) (w' : World) : Prop :=
  e = .returned (.tuple #[]) ∧ (∃ L W Sp lv wv, I L W Sp ∧ PrS w' g v0 v1 v2 v3 lv wv L W Sp) ∧ Below g w w'
theorem catS_join : ∀ l : List ByteArray, (⟨(Lib.join (l.map (·.data.toList)) (⟨#[]⟩ : ByteArray).data.toList).toArray⟩ : ByteArray) = catS l
  | [] => by apply bytes_exP; simp [Lib.join, List.intercalate, List.intersperse, catS]
  | [a] => by apply bytes_exP; simp [Lib.join, List.intercalate, List.intersperse, catS]
  | a :: b :: r => by
    have ih := catS_join (b :: r)
    rw [catS_cons, ← ih]
    apply bytes_exP
    simp [Lib.join, List.intercalate, List.intersperse, ByteArray.data_append]
set_option maxHeartbeats 1600000 in
theorem text_any (g B : Nat) (lv : Value) (L : List ByteArray) (w : World) (c4 : w.cell? ⟨g, 4, none⟩ = some lv) (HO : Hid (w.ownsRow B 9 1 lv L.length (sv L))) (hL : L.length ≤ 3000000) (hz : (catS L).size ≤ 100000000000000) :
    Calls Tryz.prog 30 #[.pointer (some ⟨g, 0, none⟩)] w (SaysV w (.string (catS L))) := by
  have HJ : Hid (Calls Tryz.prog 64 #[lv, .string ⟨#[]⟩] w (SaysV w (.string (catS L)))) := Lib.hid (by
    have hE := catS_join L
    rcases HO.out.2 with ⟨hv, hn⟩ | ⟨k, cap, cur, hv, hk1, hk2, hk3, _⟩
    · rw [hv, List.eq_nil_of_length_eq_zero hn]
      refine (Tryz.strings_Join_none _ _ _ _).mono ?_
      rintro e w' ⟨rfl, rfl⟩
      exact ⟨rfl, Below.refl _ _⟩
    · rw [hv]
      have hcell : ∀ (j : Nat) x, L[j]? = some x → w.cell? ⟨k, 0 + j, none⟩ = some (.string x) := fun j x hj => by
        have hjl := (List.getElem?_eq_some_iff.1 hj).1
        have ho := HO.out
        rw [hv] at ho
        rw [Nat.zero_add, World.ownsRow.cellAt ho j (by omega)]
        simp [sv, hj]
      have hln : (Lib.join (L.map (·.data.toList)) (⟨#[]⟩ : ByteArray).data.toList).length = (catS L).size := by
        rw [← hE]; exact (List.size_toArray).symm
      refine (Tryz.strings_Join k 0 cap L ⟨#[]⟩ w hcell (World.ownsRow.lt HO.out k (by rw [hv]; rfl)).2 (by omega) (by omega) (by omega)).mono ?_
      rintro e w' ⟨rfl, b⟩
      exact ⟨by rw [hE], b⟩)
  obtain ⟨al, cl, rfl, _⟩ := own_in HO.out
  generalize catS L = R at HJ ⊢
  go_enter Tryz.func30, Tryz.ntmps30
  go_wp2_with (go_at_call 64; refine (HJ.out).mono ?_; rintro e w5 ⟨rfl, b⟩; have B := Lib.hid b; clear b)
  go_ret
  exact ⟨rfl, B.out⟩
def EcRelP (w : World) (g : Nat) (v0 v1 v2 v3 : Value) (n : Nat) (I : Nat → List ByteArray → List Nat → (Nat → Nat × Nat) → Prop) (i : Value) (wr : World) : Prop :=
  ∃ (k : Nat) (L : List ByteArray) (W : List Nat) (Sp : Nat → Nat × Nat) (lv wv : Value), k ≤ n ∧ i = .int .i64 k ∧ I k L W Sp ∧ PrS wr g v0 v1 v2 v3 lv wv L W Sp ∧ Below g w wr
set_option maxHeartbeats 6400000 in
theorem eachP_any (g gb n cc : Nat) (v0 v2 v3 : Value) (cs : List Cls) (U : World → Prop) (pid lev : Int) (I : Nat → List ByteArray → List Nat → (Nat → Nat × Nat) → Prop) (hn : Hid (cs.length = n)) (hm : n ≤ 1048576)
    (HC : Hid (∀ k, k < n → (cs.getD k cls0).p = pid → ∀ L W Sp w lv wv, I k L W Sp → PrS w g v0 (.slice (some ⟨gb, 0, none⟩) n cc) v2 v3 lv wv L W Sp → Env g gb cs U w → Calls Tryz.prog 78 #[.pointer (some ⟨g, 0, none⟩), .int .i64 (k : Int), .int .i64 lev] w (SaysPr w g v0 (.slice (some ⟨gb, 0, none⟩) n cc) v2 v3 (I (k + 1)))))
    (HN : Hid (∀ k, k < n → (cs.getD k cls0).p ≠ pid → ∀ L W Sp, I k L W Sp → I (k + 1) L W Sp))
    (L : List ByteArray) (W : List Nat) (Sp : Nat → Nat × Nat) (lv wv : Value) (w : World) (H0 : Hid (I 0 L W Sp)) (HP : Hid (PrS w g v0 (.slice (some ⟨gb, 0, none⟩) n cc) v2 v3 lv wv L W Sp)) (HE : Hid (Env g gb cs U w)) :
    Calls Tryz.prog 28 #[.pointer (some ⟨g, 0, none⟩), .int .i64 pid, .int .i64 lev, .func (Fn.func 78) #[.pointer (some ⟨g, 0, none⟩)] #[]] w (SaysPr w g v0 (.slice (some ⟨gb, 0, none⟩) n cc) v2 v3 (I n)) := by
  obtain ⟨c0, c1, c2, c3, c4, c5, fz⟩ := HP.out.1.cells
  go_enter Tryz.func28, Tryz.ntmps28
  go_wp2_with fail
  go_loopw [16] (fun i wr => EcRelP w g v0 (.slice (some ⟨gb, 0, none⟩) n cc) v2 v3 n I i wr) (fun i _ => n - (intOf i).toNat)
  case atStart => exact ⟨0, L, W, Sp, lv, wv, Nat.zero_le _, rfl, H0.out, HP.out, Below.refl _ _⟩
  case round =>
    obtain ⟨k, L1, W1, Sp1, lv1, wv1, hk, rfl, hI, hPr, hb⟩ := hrel
    have HI := Lib.hid hI
    have HPr := Lib.hid hPr
    have HB := Lib.hid hb
    clear hI
    by_cases hlt : k < n
    · have hl1 : k < cs.length := by rw [hn.out]; exact hlt
      obtain ⟨x, hx⟩ : ∃ x, cs.getD k cls0 = x := ⟨_, rfl⟩
      obtain ⟨a0, a1, a2, a3, a4, a5, a6, a7⟩ := ((HE.out.on hb).now).cls k hl1 x hx
      have HCk := Lib.hid (HC.out k hlt)
      have HNk := Lib.hid (HN.out k hlt)
      rw [hx] at HCk HNk
      by_cases he : x.p = pid
      · have HCC := Lib.hid (HCk.out he)
        obtain ⟨xi, xp, xr, xe, xb, xu, xo, xl⟩ := x
        simp only at a0 a1 a2 a3 a4 a5 a6 a7 he
        have dq : (xp == pid) = true := by simpa using he
        have BA := one_new2 wr (Obj.cells #[.int .i64 xi, .int .i64 xp, .int .i64 xr, .int .i64 xe, .int .i64 xb, .int .i64 xu, .int .i64 xo, .int .i64 xl] 41)
        have PA := Lib.hid (HPr.out.below BA)
        have BG := Lib.hid (HB.out.trans (BA.mono (Nat.le_of_lt HPr.out.lt)))
        have EA := Lib.hid (HE.out.on BG.out)
        clear hx hl1 he hPr hb BA
        go_wp2_with (go_at_call 78; refine (HCC.out _ _ _ _ _ _ HI.out PA.out EA.out).mono ?_; rintro e w1 ⟨rfl, ⟨L2, W2, Sp2, lv2, wv2, hI2, hP2⟩, b⟩; have HI2 := Lib.hid hI2; have HP2 := Lib.hid hP2; have B2 := Lib.hid (BG.out.trans b); clear hI2 hP2 b)
        go_roundw
        case rel => exact ⟨k + 1, L2, W2, Sp2, lv2, wv2, by omega, by go_num, HI2.out, HP2.out, B2.out⟩
        case measure => simp [intOf]; omega
      · have HI2 := Lib.hid (HNk.out he _ _ _ HI.out)
        obtain ⟨xi, xp, xr, xe, xb, xu, xo, xl⟩ := x
        simp only at a0 a1 a2 a3 a4 a5 a6 a7 he
        have dq : (xp == pid) = false := by simpa using he
        have BA := one_new2 wr (Obj.cells #[.int .i64 xi, .int .i64 xp, .int .i64 xr, .int .i64 xe, .int .i64 xb, .int .i64 xu, .int .i64 xo, .int .i64 xl] 41)
        have PA := Lib.hid (HPr.out.below BA)
        have BG := Lib.hid (HB.out.trans (BA.mono (Nat.le_of_lt HPr.out.lt)))
        clear hx hl1 he hPr hb BA
        go_wp2_with fail
        go_roundw
        case rel => exact ⟨k + 1, L1, W1, Sp1, lv1, wv1, by omega, by go_num, HI2.out, PA.out, BG.out⟩
        case measure => simp [intOf]; omega
    · have hkn : k = n := by omega
      subst hkn
      clear hPr hb
      go_wp2_with fail
      exact bodyPost_ret (v := .tuple #[]) (by simp [results, Tryz.results28, go_sem]) rfl ⟨rfl, ⟨L1, W1, Sp1, lv1, wv1, HI.out, HPr.out⟩, HB.out⟩
def EcRelB (w : World) (g : Nat) (v0 v1 v2 v3 : Value) (n : Nat) (I : Nat → List ByteArray → List Nat → (Nat → Nat × Nat) → Prop) (i : Value) (wr : World) : Prop :=
  ∃ (k : Nat) (L : List ByteArray) (W : List Nat) (Sp : Nat → Nat × Nat) (lv wv : Value), k ≤ n ∧ i = .int .i64 k ∧ I k L W Sp ∧ PrS wr g v0 v1 v2 v3 lv wv L W Sp ∧ Below g w wr
set_option maxHeartbeats 6400000 in
theorem eachB_any (g gb n cc : Nat) (v0 v2 v3 : Value) (cs : List Cls) (U : World → Prop) (pid lev : Int) (I : Nat → List ByteArray → List Nat → (Nat → Nat × Nat) → Prop) (hn : Hid (cs.length = n)) (hm : n ≤ 1048576)
    (HC : Hid (∀ k, k < n → (cs.getD k cls0).p = pid → ∀ L W Sp w lv wv, I k L W Sp → PrS w g v0 (.slice (some ⟨gb, 0, none⟩) n cc) v2 v3 lv wv L W Sp → Env g gb cs U w → Calls Tryz.prog 29 #[.pointer (some ⟨g, 0, none⟩), .int .i64 (k : Int), .int .i64 lev] w (SaysPr w g v0 (.slice (some ⟨gb, 0, none⟩) n cc) v2 v3 (I (k + 1)))))
    (HN : Hid (∀ k, k < n → (cs.getD k cls0).p ≠ pid → ∀ L W Sp, I k L W Sp → I (k + 1) L W Sp))
    (L : List ByteArray) (W : List Nat) (Sp : Nat → Nat × Nat) (lv wv : Value) (w : World) (H0 : Hid (I 0 L W Sp)) (HP : Hid (PrS w g v0 (.slice (some ⟨gb, 0, none⟩) n cc) v2 v3 lv wv L W Sp)) (HE : Hid (Env g gb cs U w)) :
    Calls Tryz.prog 28 #[.pointer (some ⟨g, 0, none⟩), .int .i64 pid, .int .i64 lev, .func (Fn.func 29) #[.pointer (some ⟨g, 0, none⟩)] #[]] w (SaysPr w g v0 (.slice (some ⟨gb, 0, none⟩) n cc) v2 v3 (I n)) := by
  obtain ⟨c0, c1, c2, c3, c4, c5, fz⟩ := HP.out.1.cells
  go_enter Tryz.func28, Tryz.ntmps28
  go_wp2_with fail
  go_loopw [16] (fun i wr => EcRelB w g v0 (.slice (some ⟨gb, 0, none⟩) n cc) v2 v3 n I i wr) (fun i _ => n - (intOf i).toNat)
  case atStart => exact ⟨0, L, W, Sp, lv, wv, Nat.zero_le _, rfl, H0.out, HP.out, Below.refl _ _⟩
  case round =>
    obtain ⟨k, L1, W1, Sp1, lv1, wv1, hk, rfl, hI, hPr, hb⟩ := hrel
    have HI := Lib.hid hI
    have HPr := Lib.hid hPr
    have HB := Lib.hid hb
    clear hI
    by_cases hlt : k < n
    · have hl1 : k < cs.length := by rw [hn.out]; exact hlt
      obtain ⟨x, hx⟩ : ∃ x, cs.getD k cls0 = x := ⟨_, rfl⟩
      obtain ⟨a0, a1, a2, a3, a4, a5, a6, a7⟩ := ((HE.out.on hb).now).cls k hl1 x hx
      have HCk := Lib.hid (HC.out k hlt)
      have HNk := Lib.hid (HN.out k hlt)
      rw [hx] at HCk HNk
      by_cases he : x.p = pid
      · have HCC := Lib.hid (HCk.out he)
        obtain ⟨xi, xp, xr, xe, xb, xu, xo, xl⟩ := x
        simp only at a0 a1 a2 a3 a4 a5 a6 a7 he
        have dq : (xp == pid) = true := by simpa using he
        have BA := one_new2 wr (Obj.cells #[.int .i64 xi, .int .i64 xp, .int .i64 xr, .int .i64 xe, .int .i64 xb, .int .i64 xu, .int .i64 xo, .int .i64 xl] 41)
        have PA := Lib.hid (HPr.out.below BA)
        have BG := Lib.hid (HB.out.trans (BA.mono (Nat.le_of_lt HPr.out.lt)))
        have EA := Lib.hid (HE.out.on BG.out)
        clear hx hl1 he hPr hb BA
        go_wp2_with (go_at_call 29; refine (HCC.out _ _ _ _ _ _ HI.out PA.out EA.out).mono ?_; rintro e w1 ⟨rfl, ⟨L2, W2, Sp2, lv2, wv2, hI2, hP2⟩, b⟩; have HI2 := Lib.hid hI2; have HP2 := Lib.hid hP2; have B2 := Lib.hid (BG.out.trans b); clear hI2 hP2 b)
        go_roundw
        case rel => exact ⟨k + 1, L2, W2, Sp2, lv2, wv2, by omega, by go_num, HI2.out, HP2.out, B2.out⟩
        case measure => simp [intOf]; omega
      · have HI2 := Lib.hid (HNk.out he _ _ _ HI.out)
        obtain ⟨xi, xp, xr, xe, xb, xu, xo, xl⟩ := x
        simp only at a0 a1 a2 a3 a4 a5 a6 a7 he
        have dq : (xp == pid) = false := by simpa using he
        have BA := one_new2 wr (Obj.cells #[.int .i64 xi, .int .i64 xp, .int .i64 xr, .int .i64 xe, .int .i64 xb, .int .i64 xu, .int .i64 xo, .int .i64 xl] 41)
        have PA := Lib.hid (HPr.out.below BA)
        have BG := Lib.hid (HB.out.trans (BA.mono (Nat.le_of_lt HPr.out.lt)))
        clear hx hl1 he hPr hb BA
        go_wp2_with fail
        go_roundw
        case rel => exact ⟨k + 1, L1, W1, Sp1, lv1, wv1, by omega, by go_num, HI2.out, PA.out, BG.out⟩
        case measure => simp [intOf]; omega
    · have hkn : k = n := by omega
      subst hkn
      clear hPr hb
      go_wp2_with fail
      exact bodyPost_ret (v := .tuple #[]) (by simp [results, Tryz.results28, go_sem]) rfl ⟨rfl, ⟨L1, W1, Sp1, lv1, wv1, HI.out, HPr.out⟩, HB.out⟩
end Go.Proofs.YthgbhnedfdnfpaaGreatDoor
